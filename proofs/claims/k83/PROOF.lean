import PyProof.Rows.All
import Wide.All
import OpenK.AllK
import Wide.FinOn
import HandS.ExcInit
import HandS.Exc
import HandS.ExcIs
import HandS.ExcValue
import HandS.Defaults
import HandS.MakeKw
import HandS.Words
import HandS.ForMost
import HandS.OwnEq
import HandS.IsInst
import HandS.ClsMeth
import KE.KCallOwn
import PyProof.InstNe
import HandS.Star
import HandS.MethStar
import HandS.Lambda
import HandS.Comp
import HandS.Dict
import HandS.ExcOwn
import HandS.NoneIn
import HandS.WordsExc
import HandS.Style
import HandS.MakeKwOnly
import KE.KStar
import PyProof.DictCopy
import KE.KDictZip
import HandS.Zip
import HandS.Iter
import HandS.Strs
import HandS.WrittenGet
import HandS.DictComp
import HandS.ListItems
import HandS.Property
import HandS.More
import HandS.List
import HandS.Text
import PySem.Challenge.RW_headskip_k83_rule_books_made
import HandS.Wide
import KE.KNestM
import HandS.HeadHook1
import HandS.HeadHook2
import HandS.HeadHook3
import HandS.HeadHook4
import HandS.HeadNt
import HandS.HeadWalk
set_option Elab.async false
set_option linter.all false
set_option maxRecDepth 100000
set_option maxHeartbeats 4000000
/-! ExK: a call of an own exception class with keywords. -/
namespace PySem.HandSPX
open PySem PySem.Spec PySem.Calls PyProof.Rows
section
variable {nm q : Str} {C N : Addr} {bs bm : List Value} {hdct : Bool} {sn : List Str} {sub : List Value} {ab : Bool} {col : Option Bool} {dd : Option Addr} {k0 k1 k2 k3 k5 : Option Value} {newId initId B : String} {bmB : List Value}
variable {prog : Program} {w : World} {A : Around} {E : Value → Shared → Prop} {R : Result → Shared → Prop} {h : Heap} {g : Array GenState} {d : Drawn} {t : Nat} {os : OsState}
theorem check_type_callK {M : Model} {rest : List Value} {kws : List (Str × Value)} {Q : Unit → Shared → Prop} (hC : h.get? C = some (excClassObj nm q C N bs bm hdct sn sub ab col dd k0 k1 k2 k3 k5 newId))
    (hq : Q () ⟨h, g, d, t, os⟩) : wpAny M A (checkBuiltinCall "type.__call__" ⟨.ref C :: rest, kws⟩) Q E ⟨h, g, d, t, os⟩ := by
  have f3 := tc_sub
  have hT : (⟨h, g, d, t, os⟩ : Shared).TypeIs (.ref C) "type" := ⟨_, hC, rfl⟩
  simp only [checkBuiltinCall, tc_kind, tc_split]
  repeat (any_goals (first | assumption | with_reducible refine wpAny_loadPart_at hC ?_ | with_reducible refine wpAny_onRaise ?_ | with_reducible refine wpAny_map ?_ | wp_step))
theorem check_new_ownK (F : ExcBaseFacts B newId initId bmB) (hT : ∀ X : String, bm.contains (.type X) = bmB.contains (.type X)) {M : Model} {rest : List Value} {kws : List (Str × Value)} {Q : Unit → Shared → Prop}
    (hC : h.get? C = some (excClassObj nm q C N bs bm hdct sn sub ab col dd k0 k1 k2 k3 k5 newId)) (hq : Q () ⟨h, g, d, t, os⟩) : wpAny M A (checkBuiltinCall newId ⟨.ref C :: rest, kws⟩) Q E ⟨h, g, d, t, os⟩ := by
  have hcont : (Value.ref C :: bm).contains (.type B) = true := by rw [List.contains_cons, hT, F.hasB, Bool.or_true]
  have hstar := F.noStar
  simp only [checkBuiltinCall, F.newKind, F.newSplit, F.newRow]
  repeat (first | refine wpAny_loadPart_at hC ?_ | (refine wpAny_isSubtype_exc hC ?_; rw [hcont]) | refine wpAny_staticBase_exc hC ?_ | refine wpAny_madeBy_exc hC ?_ | simp only [bne_self_eq_false, Bool.false_eq_true, if_false] | wp_step)
  exact hq
theorem new_ownK (F : ExcBaseFacts B newId initId bmB) (hT : ∀ X : String, bm.contains (.type X) = bmB.contains (.type X)) {rest : List Value} {kws : List (Str × Value)}
    (hC : h.get? C = some (excClassObj nm q C N bs bm hdct sn sub ab col dd k0 k1 k2 k3 k5 newId))
    (hq : R (.ok (.ret (.ref (h.objs.size + 1)))) ⟨(h.push { cls := .type "tuple", data := .seq rest.toArray }).push
      { cls := .ref C, data := .fields #[.ref h.objs.size, .none, .none, .none, .bool false, .none] }, g, d, t, os⟩) (hrest : rest.length ≤ sizeLine) :
    codeAny (model prog w) A (.builtin newId ⟨.ref C :: rest, kws⟩) R ⟨h, g, d, t, os⟩ := by
  have hends := F.ends
  have hcB : (Value.ref C :: bm).contains (.type B) = true := by rw [List.contains_cons, hT, F.hasB, Bool.or_true]
  have hcA : (Value.ref C :: bm).contains (.type "AttributeError") = false := by rw [List.contains_cons, hT, F.noAttr]; rfl
  have hcN : (Value.ref C :: bm).contains (.type "NameError") = false := by rw [List.contains_cons, hT, F.noName]; rfl
  refine codeAny_builtinAt F.entry ?_
  unfold Builtin.«BaseException.__new__»
  refine wpAt_bind ?_
  show wpAt _ _ _ (stack >>= _) _ _ _
  refine wpAt_bind (wpAt_stack fun p below => wpAt_of_wpAny ?_)
  wp_walk
  refine wpAt_of_wpAny ?_
  rw [F.owner]
  repeat (first | with_reducible refine wpAny_madeHere_exc F.canon hC ?_ | with_reducible refine wpAny_loadPart_at hC ?_ | (with_reducible refine wpAny_isSubtype_exc hC ?_; first | rw [hcB] | rw [hcA] | rw [hcN]) | wp_step)
  show R _ _
  rw [Heap.size_push]
  exact hq
theorem type_call_ownK (F : ExcBaseFacts B newId initId bmB) (hT : ∀ X : String, bm.contains (.type X) = bmB.contains (.type X)) {rest : List Value} {kws : List (Str × Value)} {fI : Addr} {Q : Fin → Shared → Prop}
    (hC : h.get? C = some (excClassObj nm q C N bs bm hdct sn sub ab col dd k0 k1 k2 k3 k5 newId))
    (hi : W.Looks (model prog w) h (typeLookup (.ref C) "__init__") (some (.ref fI))) (hb : ∀ self, W.Looks (model prog w) h (bindSpecial (.ref fI) self) (.ref fI, [self])) (hrest : rest.length ≤ sizeLine)
    (hq : codeAny (model prog w) A (.call (.ref fI) ⟨.ref (h.objs.size + 1) :: rest, kws⟩)
      (fun r s' => match r with | .ok (.ret v) => v = .none ∧ Q (.done (.ret (.ref (h.objs.size + 1)))) s' | .ok _ => False | .error e => E e s')
      ⟨(h.push (W.kdv_tup rest)).push (excO C h.objs.size), g, d, t, os⟩) :
    wpAny (model prog w) A (Builtin.«type.__call__» ⟨.ref C :: rest, kws⟩) Q E ⟨h, g, d, t, os⟩ := by
  repeat (first | with_reducible refine wpAny_loadPart_at hC ?_ | with_reducible refine wpAny_madeBy_exc hC ?_ | wp_step)
  refine codeAny_call_builtin_code (Code.quiet_builtin _ F.quiet) (check_new_ownK F hT hC ?_)
  refine new_ownK F hT hC ?_ hrest
  show wpAny _ _ _ _ _ _
  have k : ∀ b o, h.get? b = some o → ((h.push (W.kdv_tup rest)).push (excO C h.objs.size)).get? b = some o := fun b o e => Heap.get?_push_of_some _ (Heap.get?_push_of_some _ e)
  have hC₁ := k _ _ hC
  have hget : ((h.push (W.kdv_tup rest)).push (excO C h.objs.size)).get? (h.objs.size + 1) = some (excO C h.objs.size) := by heap_get
  have hcC : (Value.ref C :: bm).contains (.ref C) = true := by simp
  have i1 := hi.keeps k
  have b1 := (hb (.ref (h.objs.size + 1))).keeps k
  unfold isInstance
  repeat (first | with_reducible refine wpAny_loadPart_at hget ?_ | (with_reducible refine wpAny_isSubtype_exc hC₁ ?_; rw [hcC]) | wp_step)
  show wpAny _ _ (typeLookup (.ref C) _) _ _ _
  refine i1.at ?_
  refine wpAny_holding (wpAny_bind (b1.at ?_))
  refine wpAny_bind (wpAny_call (codeAny_mono hq fun r s' z => ?_))
  rcases r with e | (v | _ | _ | _) <;> first | exact z | exact z.elim | skip
  obtain ⟨rfl, z⟩ := z
  first
    | exact wpAny_pure (wpAny_pure z)
    | (wp_walk; exact z)
theorem call_ownK (F : ExcBaseFacts B newId initId bmB) (hT : ∀ X : String, bm.contains (.type X) = bmB.contains (.type X)) {rest : List Value} {kws : List (Str × Value)} {fI : Addr}
    (hC : h.get? C = some (excClassObj nm q C N bs bm hdct sn sub ab col dd k0 k1 k2 k3 k5 newId))
    (hi : W.Looks (model prog w) h (typeLookup (.ref C) "__init__") (some (.ref fI))) (hb : ∀ self, W.Looks (model prog w) h (bindSpecial (.ref fI) self) (.ref fI, [self])) (hrest : rest.length ≤ sizeLine)
    (hq : codeAny (model prog w) (A.under (.builtin "type.__call__" ⟨.ref C :: rest, kws⟩)) (.call (.ref fI) ⟨.ref (h.objs.size + 1) :: rest, kws⟩) (W.InitBack (h.objs.size + 1) R)
      ⟨(h.push (W.kdv_tup rest)).push (excO C h.objs.size), g, d, t, os⟩) :
    codeAny (model prog w) A (.call (.ref C) ⟨rest, kws⟩) R ⟨h, g, d, t, os⟩ := by
  have f1 := tc_lookup
  have f2 := tc_bind (.ref C)
  have hTy : (⟨h, g, d, t, os⟩ : Shared).TypeIs (.ref C) "type" := ⟨_, hC, rfl⟩
  refine codeAny_of_tree ?_
  show wpAny _ _ (callAny (.ref C) _) _ _ _
  repeat (any_goals (first | assumption | with_reducible refine wpAny_loadPart_at hC ?_ | wp_step))
  refine ⟨rfl, ?_⟩
  refine codeAny_call_builtin_at (Code.quiet_builtin _ (by decide +kernel)) entry_typeCall (check_type_callK hC (type_call_ownK F hT hC hi hb hrest ?_))
  refine codeAny_mono hq fun r s' z => ?_
  rcases r with e | (v | _ | _ | _) <;> exact z
end
end PySem.HandSPX

set_option Elab.async false
set_option linter.all false
set_option maxRecDepth 100000
set_option maxHeartbeats 4000000
/-! ExR: own exceptions as values over the layer: made, their fields read, isinstance. -/
namespace PySem.W
open PySem PySem.Spec PySem.Calls PyProof.Rows
section
variable {prog : Program} {w : World} {A : Around} {E : Value → Shared → Prop} {s : Shared} {K : Frag} {x D : Addr} {ox : Obj} {od : Option Obj}
theorem findObj_dataO {C : Addr} {name : Str} {a g : Value} (hc : (clsIn K C).isSome = true) (ha : findIn K (.ref C) name = some (some a)) (hg : specialIn K a "__get__" = some (some g)) (ht : takesIn K a = some true) : findObj K C od name = some (.bind g a) := by
  obtain ⟨cd, hc⟩ := Option.isSome_iff_exists.mp hc
  unfold findObj
  rw [hc, Option.bind_some, ha, Option.bind_some]
  simp [hg, ht]
theorem kin_classO {Q : Option Value → Shared → Prop} (hga : findIn K (.ref D) "__getattribute__" = some (some (.builtin "BaseException.__getattribute__"))) (hgt : findIn K (.ref D) "__getattr__" = some none) (hsub : subIn K (.ref D) (.type "BaseException") = some true)
    (hdct : hasDictIn K D = true) (ha : findIn K (.ref D) "__class__" = some (some (.builtin "object.__class__")))
    (hn : specialIn K (.builtin "object.__class__") "__get__" = some (some (.builtin "getset_descriptor.__get__"))) (htk : takesIn K (.builtin "object.__class__") = some true) (hm : mroIn K D (.type "object") = some true)
    (X : K.In s.heap) (I : InstAt s.heap x ox D od) (h : Q (some (.ref D)) { s with toks := s.toks + 1 }) : wpAny (model prog w) A (getAttr? (.ref x) "__class__") Q E s := by
  have hf : findObj K D od "__class__" = some (.bind (.builtin "getset_descriptor.__get__") (.builtin "object.__class__")) := findObj_dataO (by obtain ⟨cd, hc, _⟩ := any_some hdct; rw [hc]; rfl) ha hn htk
  obtain ⟨hp, g, d, t, os⟩ := s
  have L0 := I.type (M := model prog w)
  have L1 := looks_findIn (M := model prog w) X hga
  have L2 := looks_findIn (M := model prog w) X hgt
  have L3 := looks_find (M := model prog w) X I hf
  have sub : Looks (model prog w) hp (isInstance (.ref x) (.type "BaseException")) true := L0.andThen (looks_subIn X hsub)
  have hx0 : (false && onTheHeap (Value.builtin "BaseException.__getattribute__")) = false := rfl
  have hx2 : (Value.builtin "BaseException.__getattribute__" == Value.builtin "object.__getattribute__") = false := by decide +kernel
  have hx1 : (onTheHeap (Value.ref D) && Value.builtin "BaseException.__getattribute__" == Value.builtin "object.__getattribute__") = false := by rw [hx2]; rfl
  unfold getAttr? getAttrBy? getAttrBy
  refine wpAny_bind (wpAny_mkText (wpAny_bind (wpAny_attempt (wpAny_holding (wpAny_bind (L0.at (wpAny_bind (L1.at ?_))))))))
  show wpAny _ _ (if (onTheHeap (Value.ref D) && Value.builtin "BaseException.__getattribute__" == Value.builtin "object.__getattribute__") = true then _ else _) _ _ _
  rw [hx1, if_neg Bool.false_ne_true]
  unfold getAttrByItsOwn hookBefore
  refine wpAny_bind ?_
  rw [if_pos (show onTheHeap (Value.ref D) = true from rfl)]
  refine L2.at ?_
  refine wpAny_bind (wpAny_attempt (wpAny_holding ?_))
  unfold callGetattribute
  rw [hx0, if_neg Bool.false_ne_true]
  unfold boundAndCalled
  rw [PySem.F.excAttr_ValueError.ga.bind (.ref x)]
  refine wpAny_bind (wpAny_pure ?_)
  show wpAny _ _ (call (.builtin "BaseException.__getattribute__") [.ref x, .str "__class__" t]) _ _ _
  refine wpAny_call (codeAny_call_builtin PySem.F.excAttr_ValueError.ga.plain PySem.F.entry_bexc_ga ?_)
  refine @check_slot (model prog w) _ _ ⟨hp, g, d, t + 1, os⟩ "BaseException.__getattribute__" "BaseException" "__getattribute__" (.ref x) [.str "__class__" t] [] _ (by decide +kernel) (by decide +kernel) sub (PySem.F.args_bexc_ga (.ref x) (.str "__class__" t)) ?_
  unfold Builtin.«object.__getattribute__»
  refine wpAny_bind (wpAny_of_eq (a := ((Value.ref x : Value), [Value.str "__class__" t])) (by first | rfl | (simp only [slotArgs]; rfl)) ?_)
  refine wpAny_bind (wpAny_pure (wpAny_bind (L0.at (wpAny_bind (L3.at ?_)))))
  show wpAny _ _ (holding [Value.builtin "object.__class__"] (call (.builtin "getset_descriptor.__get__") [.builtin "object.__class__", .ref x, .ref D]) >>= ret) _ _ _
  refine wpAny_bind (wpAny_holding (wpAny_call (class_get (s := ⟨hp, g, d, t + 1, os⟩) (ox := ox) (od := od) X I hm ?_)))
  refine wpAny_pure ?_
  show wpAny _ _ (handedOut (.ref D)) _ _ _
  rw [handedOut_of (v := .ref D) rfl]
  first
    | exact wpAny_pure (wpAny_pure h)
    | exact wpAny_pure h
    | exact wpAny_pure (wpAny_bind (wpAny_pure (wpAny_pure h)))
theorem kitx_excO (hga : findIn K (.ref D) "__getattribute__" = some (some (.builtin "BaseException.__getattribute__"))) (hgt : findIn K (.ref D) "__getattr__" = some none) (hsub : subIn K (.ref D) (.type "BaseException") = some true) (hdct : hasDictIn K D = true) (ha : findIn K (.ref D) "__class__" = some (some (.builtin "object.__class__")))
    (hn : specialIn K (.builtin "object.__class__") "__get__" = some (some (.builtin "getset_descriptor.__get__"))) (htk : takesIn K (.builtin "object.__class__") = some true) (hm : mroIn K D (.type "object") = some true) :
    KitX K (.ref x) (.ref D) (fun h => InstAt h x ox D od) where
  ty := fun _ _ _ I => I.type
  it := fun _ _ X _ => by
    obtain ⟨cdD, hcD, _⟩ := any_some hdct
    unfold clsIn at hcD
    split at hcD
    · rename_i c' d' cd' sl' ho
      intro A' Q' E' s' k q
      unfold isType loadHead
      exact wpAny_bind (wpAny_loadPart (k _ _ (X _ _ ho)) (wpAny_pure q))
    · cases hcD
  ne := fun h tp dd its n sl X htp => by
    obtain ⟨cdD, hcD, _⟩ := any_some hdct
    refine Bool.eq_false_iff.mpr fun q => ?_
    have e : D = tp := Value.ref.inj (beq_iff_eq.mp q)
    subst e
    unfold clsIn at hcD
    split at hcD
    · rename_i c' d' cd' sl' ho
      have z := (X _ _ ho).symm.trans htp
      cases z
    · cases hcD
  ca := fun X I k => kin_classO hga hgt hsub hdct ha hn htk hm X I k
end
end PySem.W
namespace L2
open PySem PySem.Spec PyProof.Rows
/-- the instance as it stands -/
theorem exo_inst {P : Program} {w : World} {H : Hp} {h : Heap} {a D : Addr} {d : Option Addr} (hok : HOk P w H h) (ha : H a = some (exo a D d)) (hd : ∀ dx, d = some dx → ∃ fs, H dx = some (exd dx fs)) :
    ∃ (ox : Obj) (od : Option Obj), PySem.W.InstAt h a ox D od ∧ ∀ dx fs, d = some dx → H dx = some (exd dx fs) → ∃ (o : Obj) (mA : Str → Option Value), od = some o ∧ (∀ f, RelO (fs.lookup f) (mA f)) ∧ ∀ f, PySem.W.lookIn f o = some (mA f) := by
  obtain ⟨t1, e⟩ := exo_at hok ha
  cases d with
  | none => exact ⟨_, none, ⟨e, rfl, rfl, trivial⟩, fun dx fs z => nomatch z⟩
  | some dx =>
    obtain ⟨fs, ed⟩ := hd dx rfl
    obtain ⟨mA, hns, hr⟩ := exd_at hok ed
    obtain ⟨od, ho, hl⟩ := lookIn_ns hns
    refine ⟨_, some od, ⟨e, rfl, rfl, ho⟩, fun dx' fs' z1 z2 => ?_⟩
    cases z1
    obtain ⟨mB, hnsB, hrB⟩ := exd_at hok z2
    obtain ⟨od', ho', hl'⟩ := lookIn_ns hnsB
    rw [ho] at ho'; cases ho'
    exact ⟨od, mB, rfl, hrB, fun f => hl' f⟩
/-- isinstance(e, c), e an own exception as a value -/
def rIsX (K : PySem.W.Frag) : List V → Hp → VK → Prop := fun xs H Q => ∃ (a D : Addr) (d : Option Addr) (c : V) (cv : Value) (b : Bool), xs = [.ref a, c] ∧ H a = some (exo a D d) ∧ (∀ dx, d = some dx → ∃ fs, H dx = some (exd dx fs)) ∧ ExcC K D ∧
  (∀ u, RelV c u → u = cv) ∧ PySem.W.kitOne K (.ref D) cv = some b ∧ Q (.bl b) H
theorem call_isX {X : Cx} : CallR X (.builtin "isinstance") (rIsX X.K) := by
  intro pins s σ H xs us Q I r h
  obtain ⟨a, D, d, c, cv, b, rfl, ha, hd, C, hcv, e, q⟩ := h
  cases r with
  | cons rx rr =>
    cases rr with
    | cons rt rr =>
      cases rr
      cases rx
      have ec := hcv _ rt
      subst ec
      obtain ⟨ox, od, J, _⟩ := exo_inst I.hok ha hd
      exact PySem.W.kia_one (PySem.W.kitx_excO C.hg C.hk C.hs C.hd C.ha C.hn C.ht C.hm) I.kIn J e (fun z => nomatch z) fun tk => ⟨.bl b, H, I.kept (t' := tk) fun _ _ z => z, rfl, q⟩
/-- e.f, e an own exception as a value -/
def tExF (K : PySem.W.Frag) (f : Str) (te : TE) : TE := fun σ H Q => te σ H fun x H1 => ∃ (a D dx : Addr) (fs : List (Str × V)) (v : V), x = .ref a ∧ H1 a = some (exo a D (some dx)) ∧ H1 dx = some (exd dx fs) ∧ fs.lookup f = some v ∧
  ExcC K D ∧ PySem.W.findIn K (.ref D) f = some none ∧ Q v H1
theorem pe_exf {X : Cx} {e : Expr} {te : TE} {f : Str} {pos : Pos} (he : PE X e te) (hb : attributeBase e f X.env (eval e X.env) = eval e X.env := by rfl) : PE X (.Attribute e f pos) (tExF X.K f te) := by
  refine ⟨fun pins s σ H Q I h => ?_⟩
  refine attr_of hb (thn (he.run pins s σ H _ I h) fun u s1 hh => ?_)
  obtain ⟨x, H1, I1, rx, a, D, dx, fs, v, ex, ea, ed, l, C, nf, q⟩ := hh
  subst ex
  obtain rfl : u = Value.ref a := rx
  obtain ⟨ox, od, J, z⟩ := exo_inst I1.hok ea (fun dx' e' => by cases e'; exact ⟨fs, ed⟩)
  obtain ⟨o, mA, rfl, hr, hl⟩ := z dx fs rfl ed
  obtain ⟨u, hu, ru⟩ := RelO.some_of (v := v) (o := mA f) (by rw [← l]; exact hr f)
  exact PySem.HandSPX.exc_get I1.kIn J C.hg C.hk C.hs (PySem.W.findObj_own C.hd nf rfl (by rw [hl, hu])) (handed_of ru) ⟨v, H1, I1.tok _, ru, q⟩
/-- C(e, ..), an own exception class with its own __init__ keeping sp, as a value -/
def tExV (C : Addr) (sp : Sp) (dvs : List V) (ta : TA) : TE := fun σ H Q => ta σ H fun vs H1 => vs.length ≤ 1000 ∧ ∀ a, H1 a = none → sp (.ref a :: (vs ++ dvs)) (upd H1 a (exo a C none)) (fun v H2 => v = .non ∧ Q (.ref a) H2) E0
/-- with keywords alone -/
def tExK (C : Addr) (sp : Sp) (m : Nat) (gV : List V → List V → List V) (tk : TA) : TE := fun σ H Q => tk σ H fun zs H1 => zs.length = m ∧ ∀ a, H1 a = none → sp (gV [.ref a] zs) (upd H1 a (exo a C none)) (fun v H2 => v = .non ∧ Q (.ref a) H2) E0
section
variable {X : Cx} {CX : CXT} {x : Str} {C fI : Addr} {k : Nat} {fd : FuncData} {ps ks : List Str} {sp : Sp} {ds : List Value} {dvs : List V} {e : Expr} {es : List Expr} {ta tk : TA} {p pos : Pos} {kws : List Keyword} {g : List Value → List Value → List Value} {gV : List V → List V → List V}
theorem run_exv {pins : List (Addr × Obj)} {σ : L2.St} {H1 : Hp} {s1 : Shared} {Q : VK} {us : List Value} {kw : List (Str × Value)} {ws : List Value} {wv : List V} (T : OexC X.K C) (iC : PySem.W.findIn X.K (.ref C) "__init__" = some (some (.ref fI))) (tI : PySem.W.typeIn X.K (.ref fI) = some (.type "function"))
    (F1 : FnOk X.prog X.w X.K X.mg X.base CX k fI fd ps sp) (hr : Room (k + 1) X.A) (hx : Passes CX X E0) (I1 : Inv X pins σ H1 s1) (hus : us.length ≤ sizeLine)
    (hb : ∀ (a : Addr) (s : Shared), X.K.In s.heap → ∃ (as : List Value) (av : List V), BindsTo s fd ⟨.ref a :: us, kw⟩ (ps.zip as) ∧ Vals av as ∧ (H1 a = none → sp av (upd H1 a (exo a C none)) (fun v H2 => v = .non ∧ Q (.ref a) H2) E0)) :
    wpAny (model X.prog X.w) X.A (call (.ref C) us kw) (EP X pins σ Q) X.xe s1 := by
  obtain ⟨nm, q, N, bs, bm, sn, sub, ab, col, dd, k0, k1, k2, k3, k5, hC, hbm⟩ := T.cls
  obtain ⟨hp, g, dr, tk, os⟩ := s1
  have hsz : hp.objs.size ≤ hp.objs.size + 1 := Nat.le_succ _
  have hn : H1 (hp.objs.size + 1) = none := I1.hok.fresh hsz
  have kk : ∀ b o, hp.get? b = some o → ((hp.push (PySem.W.kdv_tup us)).push (PySem.HandSPX.excO C hp.objs.size)).get? b = some o := fun b o e => Heap.get?_push_of_some _ (Heap.get?_push_of_some _ e)
  have hget : ((hp.push (PySem.W.kdv_tup us)).push (PySem.HandSPX.excO C hp.objs.size)).get? (hp.objs.size + 1) = some (PySem.HandSPX.excO C hp.objs.size) := by heap_get
  have I2 : Inv X pins σ (upd H1 (hp.objs.size + 1) (exo (hp.objs.size + 1) C none)) ⟨(hp.push (PySem.W.kdv_tup us)).push (PySem.HandSPX.excO C hp.objs.size), g, dr, tk, os⟩ :=
    I1.laid (t' := tk) (a := hp.objs.size + 1) (o := exo (hp.objs.size + 1) C none) (h' := (hp.push (PySem.W.kdv_tup us)).push (PySem.HandSPX.excO C hp.objs.size)) kk hsz (exo_ok hget)
  obtain ⟨as, av, hbd, hv, hsp⟩ := hb (hp.objs.size + 1) _ I2.kIn
  have hq := hsp hn
  refine wpAny_call (PySem.HandSPX.call_ownK F.excBase_ValueError (fun Y => PySem.HandSPX.refsVE_contains Y bm hbm) (I1.kIn _ _ hC) (PySem.W.looks_findIn I1.kIn iC) (fun self => PySem.W.bind_fn I1.kIn self tI) hus
    (codeAny_mono (F1.run _ X.stack _ _ ⟨Value.ref (hp.objs.size + 1) :: us, kw⟩ as av _ E0 (hr.make C us kw) (I2.env0.make C us kw) hbd hv hq) fun r s' hq' => ?_))
  cases r with
  | error er => exact hx pins σ _ _ er s' I2 hq'
  | ok fl =>
    cases fl with
    | ret u =>
      obtain ⟨v, H', I3, rv, ev, q3⟩ := I2.after hq'
      subst ev
      exact ⟨rv, ⟨V.ref (hp.objs.size + 1), H', I3, rfl, q3⟩⟩
    | next => exact False.elim hq'
    | brk => exact False.elim hq'
    | cont => exact False.elim hq'
theorem pe_exv (T : OexC X.K C) (iC : PySem.W.findIn X.K (.ref C) "__init__" = some (some (.ref fI))) (tI : PySem.W.typeIn X.K (.ref fI) = some (.type "function")) (F1 : FnOk X.prog X.w X.K X.mg X.base CX k fI fd ps sp) (hr : Room (k + 1) X.A) (hb : Binds X.K fd ps ds) (hd : Vals dvs ds)
    (hx : Passes CX X E0) (hg : Gl X x) (hm : X.mg x = some (.ref C)) (ha : PA X (e :: es) ta) (hdb : (x == ("__debug__" : Str)) = false := by decide) (he : starEach (e :: es) X.env = (false, eval e X.env) :: starEach es X.env := by rfl)
    (hpl : (backTo pos (starEach es X.env)).any (·.1) = false := by rfl) : PE X (.Call (.Name x p) (e :: es) [] pos) (tExV C sp dvs ta) := by
  refine ⟨fun pins s σ H Q I h => ?_⟩
  refine wpAny_Call_Name_kw (ld_glob I hg hm ?_ hdb)
  refine PySem.W.callWith_K (h₀ := X.base) I.ok.mod.kin T.kC (thn (ha.run pos pins s σ H _ I h) fun us s1 ⟨vs, H1, I1, r1, hz, q1⟩ => ⟨I1.kIn, ?_⟩) he hpl
  show wpAny _ _ (call (.ref C) us) _ _ _
  refine run_exv (ws := []) (wv := []) T iC tI F1 hr hx I1 (by rw [← Paired.length r1, sizeLine_eq]; omega) fun a s hk => ?_
  have r2 : Vals (V.ref a :: (vs ++ dvs)) (Value.ref a :: (us ++ ds)) := .cons rfl (r1.append hd)
  by_cases hn : H1 a = none
  · refine ⟨Value.ref a :: (us ++ ds), _, hb s (Value.ref a :: us) hk ?_, r2, fun h => q1 a h⟩
    have e := r2.length
    rw [F1.len _ _ _ _ (q1 a hn)] at e
    exact e.symm
  · obtain ⟨b, hbn⟩ : ∃ b, H1 b = none := ⟨s1.heap.objs.size, I1.hok.fresh (Nat.le_refl _)⟩
    have r3 : Vals (V.ref b :: (vs ++ dvs)) (Value.ref b :: (us ++ ds)) := .cons rfl (r1.append hd)
    refine ⟨Value.ref a :: (us ++ ds), _, hb s (Value.ref a :: us) hk ?_, r2, fun h => absurd h hn⟩
    have e := r3.length
    rw [F1.len _ _ _ _ (q1 b hbn)] at e
    exact e.symm
theorem pe_exk (T : OexC X.K C) (iC : PySem.W.findIn X.K (.ref C) "__init__" = some (some (.ref fI))) (tI : PySem.W.typeIn X.K (.ref fI) = some (.type "function")) (F1 : FnOk X.prog X.w X.K X.mg X.base CX k fI fd ps sp) (hr : Room (k + 1) X.A) (hb : KBn X.K fd ps 1 ks g gV)
    (hx : Passes CX X E0) (hg : Gl X x) (hm : X.mg x = some (.ref C)) (hkw : PK X kws tk) (hall : (backToKw pos (keywordEach kws X.env)).all (·.1.isSome) = true := by rfl) (hks : (backToKw pos (keywordEach kws X.env)).filterMap (·.1) = ks := by rfl) (hdb : (x == ("__debug__" : Str)) = false := by decide)
    (hpl : ((backTo pos (starEach [] X.env)).any (·.1) || (backToKw pos (keywordEach kws X.env)).any (·.1.isNone)) = false := by rfl) : PE X (.Call (.Name x p) [] kws pos) (tExK C sp ks.length gV tk) := by
  refine ⟨fun pins s σ H Q I h => ?_⟩
  refine wpAny_Call_Name_kw (ld_glob I hg hm ?_ hdb)
  refine PySem.W.callWith_KW0 (h₀ := X.base) I.ok.mod.kin T.kC hall ?_ hpl
  refine thn (hkw.run pos pins s σ H _ I h) fun ws s2 ⟨zs, H2, I2, rz, l1, q2⟩ => ⟨I2.kIn, ?_⟩
  rw [hks]
  show wpAny _ _ (call (.ref C) [] (ks.zip ws)) _ _ _
  refine run_exv (ws := []) (wv := []) T iC tI F1 hr hx I2 (by show 0 ≤ sizeLine; omega) fun a s hk => ?_
  exact ⟨g [Value.ref a] ws, gV [V.ref a] zs, hb.to s [Value.ref a] ws hk rfl (rz.length.symm.trans l1), hb.rel (.cons rfl .nil) rz, fun h => q2 a h⟩
/-- C(), C(e), an own exception class without an __init__, as a value -/
def tEx0 (C : Addr) (ta : TA) : TE := fun σ H Q => ta σ H fun _ H1 => ∀ a, H1 a = none → Q (.ref a) (upd H1 a (exo a C none))
theorem run_ex0 {bmB : List Value} {B newId initId : String} {pins : List (Addr × Obj)} {σ : L2.St} {H1 : Hp} {s1 : Shared} {Q : VK} {us : List Value} (F : ExcBaseFacts B newId initId bmB) (q : PySem.W.excIn X.K C bmB newId = true) (I1 : Inv X pins σ H1 s1) (hl : us.length ≤ sizeLine)
    (q1 : ∀ a, H1 a = none → Q (.ref a) (upd H1 a (exo a C none))) : wpAny (model X.prog X.w) X.A (call (.ref C) us) (EP X pins σ Q) X.xe s1 := by
  obtain ⟨bm, N, nm, qn, bs, hdct, sn, sub, ab, col, dd, k0, k1, k2, k3, k5, mN, hC, hN, hni, T⟩ := exc_obj I1.kIn q
  refine wpAny_call_exc_subT F T hC hN hni (fun h' a hm => ?_) hl
  have hn : H1 a = none := I1.hok.gone hm.new
  obtain ⟨t, ht, _, _⟩ := hm.there
  exact ⟨.ref a, upd H1 a (exo a C none), I1.laidN hm.keeps hm.new hn (exo_ok ht), rfl, q1 a hn⟩
theorem pe_ex1 {bmB : List Value} {B newId initId : String} {te : TE} (F : ExcBaseFacts B newId initId bmB) (q : PySem.W.excIn X.K C bmB newId = true) (gC : X.mg x = some (.ref C)) (kC : PySem.W.keepIn X.K (.ref C) = true) (hg : Gl X x)
    (ha : PA X [e] ta) (hdb : (x == ("__debug__" : Str)) = false := by decide) (he : starEach [e] X.env = (false, eval e X.env) :: starEach [] X.env := by rfl) (hl : ∀ σ H Q, ta σ H Q → ta σ H fun vs H1 => vs.length ≤ 1000 ∧ Q vs H1) :
    PE X (.Call (.Name x p) [e] [] pos) (tEx0 C ta) := by
  refine ⟨fun pins s σ H Q I h => ?_⟩
  refine wpAny_Call_Name_kw (ld_glob I hg gC ?_ hdb)
  refine PySem.W.callWith_K (h₀ := X.base) I.ok.mod.kin kC (thn (ha.run pos pins s σ H _ I (hl _ _ _ h)) fun us s1 ⟨vs, H1, I1, r1, hz, q1⟩ => ⟨I1.kIn, ?_⟩) he (by rfl)
  exact run_ex0 (us := us) F q I1 (by rw [← Paired.length r1, sizeLine_eq]; omega) q1
theorem pe_ex0 {bmB : List Value} {B newId initId : String} (F : ExcBaseFacts B newId initId bmB) (q : PySem.W.excIn X.K C bmB newId = true) (gC : X.mg x = some (.ref C)) (kC : PySem.W.keepIn X.K (.ref C) = true) (hg : Gl X x)
    (hdb : (x == ("__debug__" : Str)) = false := by decide) : PE X (.Call (.Name x p) [] [] pos) (tEx0 C tNil) := by
  refine ⟨fun pins s σ H Q I h => ?_⟩
  refine wpAny_Call_Name_kw (ld_glob I hg gC ?_ hdb)
  exact PySem.W.callWith_K0 I.kIn kC (run_ex0 (us := []) F q I (by show 0 ≤ sizeLine; omega) h)
end
end L2

set_option Elab.async false
set_option linter.all false
set_option maxRecDepth 100000
set_option maxHeartbeats 4000000
/-! FnG: what a def promises, called where no repr is under way (the guards are told). -/
namespace L2
open PySem PySem.Spec PyProof.Rows
structure RoomG (k : Nat) (A : Around) : Prop extends Room k A where
  gd : A.guards = some []
theorem RoomG.mono {j k : Nat} {A : Around} (r : RoomG k A) (h : j ≤ k) : RoomG j A := ⟨r.toRoom.mono h, r.gd⟩
theorem RoomG.deeper {k : Nat} {A : Around} (r : RoomG (k + 1) A) (env : Env) : RoomG k (A.deeper env) := ⟨r.toRoom.deeper env, r.gd⟩
theorem RoomG.make {k : Nat} {A : Around} (r : RoomG (k + 1) A) (C : Addr) (us : List Value) (kw : List (Str × Value)) : RoomG k (A.under (.builtin "type.__call__" ⟨.ref C :: us, kw⟩)) :=
  ⟨r.toRoom.make C us kw, by
    show pushGuards (Code.guards (.builtin "type.__call__" ⟨.ref C :: us, kw⟩)) A.guards = some []
    rw [r.gd]
    rfl⟩
structure FnOkG (P : Program) (w : World) (K : PySem.W.Frag) (mg : Str → Option Value) (base : Heap) (CX : CXT) (k : Nat) (f : Addr) (fd : FuncData) (ps : List Str) (sp : Sp) : Prop where
  len : ∀ vs H Q E, sp vs H Q E → vs.length = ps.length
  run : ∀ (A : Around) (outer : List Env) (s : Shared) (H : Hp) (args : Args) (us : List Value) (vs : List V) (Q : VK) (E : XK), RoomG k A → Env0 P w K mg base A outer s H → BindsTo s fd args (ps.zip us) → Vals vs us → sp vs H Q E →
    codeAny (model P w) A (.call (.ref f) args) (CR CX outer P w H s Q E) s
theorem FnOkG.mono {P : Program} {w : World} {K : PySem.W.Frag} {mg : Str → Option Value} {base : Heap} {CX : CXT} {j k : Nat} {f : Addr} {fd : FuncData} {ps : List Str} {sp : Sp} (F : FnOkG P w K mg base CX j f fd ps sp) (h : j ≤ k) :
    FnOkG P w K mg base CX k f fd ps sp := ⟨F.len, fun A outer s H args us vs Q E hr => F.run A outer s H args us vs Q E (hr.mono h)⟩
theorem FnOkG.imp {P : Program} {w : World} {K : PySem.W.Frag} {mg : Str → Option Value} {base : Heap} {CX : CXT} {k : Nat} {f : Addr} {fd : FuncData} {ps : List Str} {sp sp' : Sp} (F : FnOkG P w K mg base CX k f fd ps sp)
    (h : ∀ vs H Q E, sp' vs H Q E → sp vs H Q E) : FnOkG P w K mg base CX k f fd ps sp' :=
  ⟨fun vs H Q E q => F.len vs H Q E (h _ _ _ _ q), fun A outer s H args us vs Q E hr he hb hv hs => F.run A outer s H args us vs Q E hr he hb hv (h _ _ _ _ hs)⟩
theorem FnOk.g {P : Program} {w : World} {K : PySem.W.Frag} {mg : Str → Option Value} {base : Heap} {CX : CXT} {k : Nat} {f : Addr} {fd : FuncData} {ps : List Str} {sp : Sp} (F : FnOk P w K mg base CX k f fd ps sp) : FnOkG P w K mg base CX k f fd ps sp :=
  ⟨F.len, fun A outer s H args us vs Q E hr => F.run A outer s H args us vs Q E hr.toRoom⟩
theorem fn_ofG {CX : CXT} {P : Program} {w : World} {K : PySem.W.Frag} {mg : Str → Option Value} {base : Heap} {k : Nat} {f : Addr} {name qual : Str} {params : Arguments} {body : List Stmt} {scope : Scope} {dV kV doc pm cdv ct oc : Value} {an od : Option Addr}
    {osl : Array (Option Value)} {N ps : List Str} {sp : Sp} (lk : K.lookup f = some ⟨oc, od, .func (PySem.W.fnOf name qual params body scope dV kV doc pm an cdv ct), osl⟩) (hcd : PySem.W.codeIn K cdv qual = true) (S : FnScope N ps scope)
    (len : ∀ vs H Q E, sp vs H Q E → vs.length = ps.length)
    (hbody : ∀ (A : Around) (outer : List Env) (s : Shared) (H : Hp) (vs : List V) (Q : VK) (E : XK), RoomG k (A.deeper (envOfC qual scope s.heap.objs.size f cdv)) → sp vs H Q E →
      ∃ t, PSs (cxOf CX P w K mg base N qual scope f cdv A outer s H E) body t ∧ t { nx := fun _ H' => Q .non H', rt := Q } (start N vs) H) :
    FnOkG P w K mg base CX (k + 1) f (PySem.W.fnOf name qual params body scope dV kV doc pm an cdv ct) ps sp := by
  refine ⟨len, fun A outer s H args us vs Q E hr e0 hb r hsp => ?_⟩
  have hl := len _ _ _ _ hsp
  have KX : K.In s.heap := e0.mod.kin.keeps fun b o e => (e0.bs b o e).1
  have lim : s.heap.NoLimit := e0.mod.nolimit.keeps fun b o e => (e0.bs b o e).1
  have hkind : ∀ y ∈ ps.zip us, scope.names.lookup y.1 = some .local ∨ (scope.names.lookup y.1 = some .cell ∧ ((cellsFrom (s.heap.objs.size + 1) scope.names []).lookup y.1).isSome = true) := fun ⟨n, v⟩ hy => by
    rcases S.par n (List.of_mem_zip hy).1 with q | q
    · exact .inl q
    · exact .inr ⟨q, PySem.W.cellsFrom_some _ _ _ (.inl q)⟩
  refine codeAny_call_function hr.depth (KX _ _ lk) rfl S.co S.gen rfl (PySem.W.codeRec_of KX hcd) (hb _ _ _ _ ?_)
  refine wpAny_newFunctionEnv_cells S.kind hkind fun env he s1 x => ?_
  subst he
  refine ⟨lim.keeps x.toInCall.keep, codeAny_func ?_⟩
  obtain ⟨t, ht, hq⟩ := hbody A outer s H vs Q E (hr.deeper _) hsp
  have I : Inv (cxOf CX P w K mg base N qual scope f cdv A outer s H E) [] (start N vs) H s1 := inv_start S hr.hd e0 hl r x
  refine wpAny_mono (ht.run [] s1 (start N vs) H _ I hq) (fun fl s' hs => ?_) fun e s' hs => hs
  have fin : ∀ {σ' : L2.St} {H' : Hp} {v : V} {u : Value}, Inv (cxOf CX P w K mg base N qual scope f cdv A outer s H E) [] σ' H' s' → RelV v u → Q v H' → CE outer P w H s Q u s' :=
    fun {σ' H' v u} J rv q => ⟨v, H', J.os, J.bare, J.base, J.hok, rv, q⟩
  cases fl with
  | ret u =>
    obtain ⟨v, σ', H', J, rv, q⟩ := hs
    exact fin J rv q
  | next =>
    obtain ⟨σ', H', J, q⟩ := hs
    exact fin (v := V.non) (u := Value.none) J rfl q
  | brk =>
    obtain ⟨_, _, _, q⟩ := hs
    exact False.elim q
  | cont =>
    obtain ⟨_, _, _, q⟩ := hs
    exact False.elim q
section
variable {P : Program} {w : World} {K : PySem.W.Frag} {mg : Str → Option Value} {base : Heap}
theorem Fun.okG {CX : CXT} {x qual : Str} {st : Stmt} {f : Addr} {fd : FuncData} {N ps : List Str} {k : Nat} {sp : Sp} (F : Fun K x qual st f fd) (S : FnScope N ps (defScope st)) (len : ∀ vs H Q E, sp vs H Q E → vs.length = ps.length)
    (hbody : ∀ (cdv : Value) (A : Around) (outer : List Env) (s : Shared) (H : Hp) (vs : List V) (Q : VK) (E : XK), RoomG k (A.deeper (envOfC qual (defScope st) s.heap.objs.size f cdv)) → sp vs H Q E →
      ∃ t, PSs (cxOf CX P w K mg base N qual (defScope st) f cdv A outer s H E) (defBody st) t ∧ t { nx := fun _ H' => Q .non H', rt := Q } (start N vs) H) : FnOkG P w K mg base CX (k + 1) f fd ps sp := by
  obtain ⟨oc, od, kV, doc, pm, an, cdv, ct, osl, rfl, lk, hcd⟩ := F.ex
  exact fn_ofG lk hcd S len fun A outer s H vs Q E hr hsp => hbody cdv A outer s H vs Q E hr hsp
end
section
variable {X : Cx} {CX : CXT} {k : Nat} {f C : Addr} {fd : FuncData} {ps : List Str} {sp : Sp} {dvs : List V} {ds : List Value} {E : XK} {x m : Str} {p pos apos : Pos} {e o : Expr} {es : List Expr} {ta : TE} {t : TA}
theorem run_fnG {pins : List (Addr × Obj)} {σ : L2.St} {H : Hp} {s : Shared} {Q : VK} {us : List Value} {vs : List V} (F : FnOkG X.prog X.w X.K X.mg X.base CX k f fd ps sp) (hr : RoomG k X.A) (hb : Binds X.K fd ps ds) (hd : Vals dvs ds) (hx : Passes CX X E)
    (I : Inv X pins σ H s) (r : Vals vs us) (h : sp (vs ++ dvs) H Q E) : wpAny (model X.prog X.w) X.A (call (.ref f) us) (EP X pins σ Q) X.xe s := by
  have r2 : Vals (vs ++ dvs) (us ++ ds) := r.append hd
  have hl : (us ++ ds).length = ps.length := by rw [← r2.length]; exact F.len _ _ _ _ h
  refine wpAny_call (codeAny_mono (F.run X.A X.stack s H ⟨us, []⟩ (us ++ ds) (vs ++ dvs) Q E hr I.env0 (hb s us I.kIn hl) r2 h) fun r s' hq => ?_)
  cases r with
  | error e => exact hx pins σ H s e s' I hq
  | ok fl =>
    cases fl with
    | ret u => exact I.after hq
    | next => exact False.elim hq
    | brk => exact False.elim hq
    | cont => exact False.elim hq
theorem pe_callG (F : FnOkG X.prog X.w X.K X.mg X.base CX k f fd ps sp) (hr : RoomG k X.A) (hg : Gl X x) (hm : X.mg x = some (.ref f)) (hk : PySem.W.keepIn X.K (.ref f) = true) (hb : Binds X.K fd ps ds) (hd : Vals dvs ds) (hx : Passes CX X E)
    (ha : PA X (e :: es) t) (hdb : (x == ("__debug__" : Str)) = false := by decide) (he : starEach (e :: es) X.env = (false, eval e X.env) :: starEach es X.env := by rfl) (hpl : (backTo pos (starEach es X.env)).any (·.1) = false := by rfl) :
    PE X (.Call (.Name x p) (e :: es) [] pos) (tCall sp dvs E t) := by
  refine ⟨fun pins s σ H Q I h => ?_⟩
  refine wpAny_Call_Name_kw (ld_glob I hg hm ?_ hdb)
  refine PySem.W.callWith_K (h₀ := X.base) I.ok.mod.kin hk (thn (ha.run pos pins s σ H _ I h) fun us s1 ⟨vs, H1, I1, r, q⟩ => ⟨I1.kIn, ?_⟩) he hpl
  exact run_fnG F hr hb hd hx I1 r q
theorem pe_callG0 (F : FnOkG X.prog X.w X.K X.mg X.base CX k f fd ps sp) (hr : RoomG k X.A) (hg : Gl X x) (hm : X.mg x = some (.ref f)) (hk : PySem.W.keepIn X.K (.ref f) = true) (hb : Binds X.K fd ps ds) (hd : Vals dvs ds) (hx : Passes CX X E)
    (hdb : (x == ("__debug__" : Str)) = false := by decide) : PE X (.Call (.Name x p) [] [] pos) (tCall sp dvs E tNil) := by
  refine ⟨fun pins s σ H Q I h => ?_⟩
  refine wpAny_Call_Name_kw (ld_glob I hg hm ?_ hdb)
  exact PySem.W.callWith_K0 I.kIn hk (run_fnG (us := []) F hr hb hd hx I .nil h)
end
/-! ### the law's end -/
theorem law_callG {P : Program} {w : World} {K : PySem.W.Frag} {mg mb : Str → Option Value} {CX : CXT} {k : Nat} {fa a : Addr} {fd : FuncData} {x : Str} {sp : Sp} {s₁ : Shared} {vs : List Value} {ns : List Int}
    (KX : K.In s₁.heap) (hns : s₁.heap.Ns mainGlobals mg) (hb : s₁.heap.Ns builtinsNs mb) (hbb : ∀ x : Str, x ≠ "__name__" → mb x = bootBuiltins x) (hlim : s₁.heap.NoLimit) (hg : s₁.gens = #[])
    (ha : s₁.heap.get? a = some { cls := .type "list", data := .seq vs.toArray }) (hi : IntsAre vs ns) (hl : ns.length ≤ sizeLine) (hr : Room k callerA)
    (F : ∀ base : Heap, K.In base → base.Ns mainGlobals mg → FnOkG P w K mg base CX k fa fd [x] sp) (hbind : ∀ (s : Shared) (u : Value), BindsTo s fd ⟨[u], []⟩ [(x, u)])
    (hsp : ∀ H : Hp, Only H → SqL K H a (ns.map V.int) → sp [.ref a] H (fun v _ => v = .bl true) fun _ _ _ => False)
    (hCX : ∀ H e s', CX [] H s₁ (fun _ _ _ => False) e s' → False) :
    codeAny (model P w) callerA (.call (.ref fa) ⟨[.ref a], []⟩) (fun r s' => r = .ok (.ret (.bool true)) ∧ OldK s₁.heap s'.heap ∧ s'.os = s₁.os ∧ AllBare s'.gens) s₁ := by
  have rv := vals_ints hi
  have lenV := hi.length
  have core : ∀ H : Hp, Only H → SqL K H a (ns.map V.int) → HOk P w H s₁.heap → (∀ b, H b ≠ none → b = a) → (H a ≠ none → K.lookup a = none) →
      codeAny (model P w) callerA (.call (.ref fa) ⟨[.ref a], []⟩) (fun r s' => r = .ok (.ret (.bool true)) ∧ OldK s₁.heap s'.heap ∧ s'.os = s₁.os ∧ AllBare s'.gens) s₁ := by
    intro H hO hS hok hA hK
    have base_of : ∀ {b : Addr} {o : Obj}, s₁.heap.get? b = some o → H b = none → (hidT s₁.heap H).get? b = some o := fun e n => hidT_get e n
    have noA : ∀ {b : Addr} {o : Obj} {es : Array DictEntry} {ep : Nat}, s₁.heap.get? b = some o → o.data = .dict es ep → H b = none := fun {b o es ep} e d => by
      cases q : H b with
      | none => rfl
      | some u =>
        have e' : b = a := hA b (by rw [q]; simp)
        subst e'
        rw [ha] at e; cases e
        have d' : Data.seq vs.toArray _ = Data.dict es ep := d
        cases d'
    have nsK : ∀ {b : Addr} {m : Str → Option Value}, s₁.heap.Ns b m → (hidT s₁.heap H).Ns b m := fun {b m} ⟨o, es, ep, e, d, r⟩ => ⟨o, es, ep, base_of e (noA e d), d, r⟩
    have hKb : K.In (hidT s₁.heap H) := fun b o e => base_of (KX b o e) (by
      cases q : H b with
      | none => rfl
      | some u =>
        have e' : b = a := hA b (by rw [q]; simp)
        subst e'
        rw [hK (by rw [q]; simp)] at e; cases e)
    have hM : Mod K mg (hidT s₁.heap H) := ⟨hKb, nsK hns, ⟨mb, nsK hb, hbb⟩, let ⟨mc, h1, h2⟩ := hlim; ⟨mc, nsK h1, h2⟩⟩
    have e0 : Env0 P w K mg (hidT s₁.heap H) callerA [] s₁ H := ⟨rfl, hM, fun b o e => of_hidT e, Nat.le_of_eq (hidT_size _ _), trivial, fun b hb => absurd (show b ∈ ([] : List Addr) from hb) (by simp), hok, .of_eq hg⟩
    refine codeAny_mono ((F _ hKb (nsK hns)).run callerA [] s₁ H ⟨[.ref a], []⟩ [.ref a] [.ref a] _ _ ⟨hr, rfl⟩ e0 (hbind s₁ (.ref a)) (.cons rfl .nil) (hsp H hO hS)) fun r s' h => ?_
    cases r with
    | error e => exact (hCX H e s' h).elim
    | ok fl =>
      cases fl with
      | next => exact False.elim h
      | brk => exact False.elim h
      | cont => exact False.elim h
      | ret u =>
        obtain ⟨v, H', os, bare, un, hok', r', q⟩ := h
        have q' : v = .bl true := q
        subst q'
        obtain rfl : u = Value.bool true := r'
        refine ⟨rfl, OldK.of_keep fun b o e => ?_, os, bare⟩
        cases q : H b with
        | none => exact un.keep b o e q (by intro z; exact absurd (show b ∈ ([] : List Addr) from z) (by simp)) (by simp)
        | some u =>
          rcases hO b with z | ⟨ob, xs, z⟩
          · rw [q] at z; cases z
          · have z2 := un.frzs b ob _ z
            obtain ⟨e1, _⟩ := hok b _ z
            obtain ⟨e2, _⟩ := hok' b _ z2
            rw [e] at e1; cases e1
            exact e2
  cases hk : K.lookup a with
  | some o =>
    have e := KX a o hk
    rw [ha] at e
    cases e
    refine core (fun _ => none) (fun _ => .inl rfl) (.inr ⟨_, vs.toArray, _, hk, rfl, rfl, rfl, by rw [List.size_toArray, lenV]; exact hl, by simpa using rv⟩) (fun b u z => by have z' : (none : Option HO) = some u := z; cases z') (fun b z => absurd rfl z) fun z => absurd rfl z
  | none =>
    refine core (fun b => if b = a then some (.frz { cls := .type "list", data := .seq vs.toArray } (.lst (ns.map V.int))) else none) (fun b => ?_) (.inl (.inr ⟨{ cls := .type "list", data := .seq vs.toArray }, if_pos rfl⟩)) (fun b u z => ?_) (fun b z => ?_) fun _ => hk
    · by_cases hb : b = a
      · exact .inr ⟨_, _, if_pos hb⟩
      · exact .inl (if_neg hb)
    · by_cases hb : b = a
      · have z' := (if_pos hb).symm.trans z
        cases z'
        subst hb
        exact ⟨ha, by rw [List.length_map]; exact hl, vs, _, rv, ha⟩
      · have z' := (if_neg hb).symm.trans z
        cases z'
    · by_cases hb : b = a
      · exact hb
      · exact absurd (if_neg hb) z
theorem walk_ofG {l : PySem.W.OpenLaw} {n k : Nat} {q : Program} {loose : List Str} {XP : (Str → Option Value) → Heap → Prop} {YP : World → Heap → Prop} {d : DefRec} {K : Params → PySem.W.Frag} {CX : World → CXT} {sp : World → Sp} {x : Str}
    (hn : l.most = some n) (hn2 : n ≤ sizeLine) (hdf : d.params.defaults = []) (hr : Room k callerA)
    (hY : ∀ (w : World) (h : Heap), YP w h → (K w.params).In h)
    (F : ∀ (w : World) (mg : Str → Option Value) (fa : Addr) (h : Heap), (K w.params).In h → h.Ns mainGlobals mg → mg d.name = some (.ref fa) →
      ∃ fd : FuncData, (∀ (s : Shared) (u : Value), BindsTo s fd ⟨[u], []⟩ [(x, u)]) ∧
        ∀ base : Heap, (K w.params).In base → base.Ns mainGlobals mg → FnOkG l.prog w (K w.params) mg base (CX w) k fa fd [x] (sp w))
    (hsp : ∀ (w : World) (H : Hp) (a : Addr) (ns : List Int), ns.length ≤ n → Only H → SqL (K w.params) H a (ns.map V.int) → sp w [.ref a] H (fun v _ => v = .bl true) fun _ _ _ => False)
    (hCX : ∀ (w : World) (H : Hp) (s : Shared) (e : Value) (s' : Shared), CX w [] H s (fun _ _ _ => False) e s' → False) :
    PySem.W.WalkO q loose XP YP l.row.toRowW d [] (fun f vs => PySem.call f vs) := by
  refine Att.attach_call hn hdf fun w s₀ s₁ mg mb fa o pm cd doc a vs ns G Y ho hd hcd hmg hobj hints hlen hg => ?_
  have KX := hY w _ Y
  obtain ⟨fd, hb, hF⟩ := F w mg fa _ KX G.T.g hmg
  exact law_callG KX G.T.g G.T.b G.T.builtins G.T.nolimit hg hobj hints (Nat.le_trans hlen hn2) hr hF hb (fun H hO hS => hsp w H a ns hlen hO hS) fun H e s' => hCX w H s₁ e s'
/-! ### repr of data -/
/-- repr(x), x data at any depth -/
def rRepr (K : PySem.W.Frag) : List V → Hp → VK → Prop := fun xs H Q => ∃ a d, xs = [.ref a] ∧ Dp K H (.ref a) d ∧ d.showable = true ∧ d.hasDict = false ∧ d.depth ≤ 40 ∧ d.shown.length ≤ sizeLine ∧ Q (.str d.shown) H
theorem call_repr {X : Cx} {k : Nat} (hr : RoomG k X.A) : CallR X (.builtin "repr") (rRepr X.K) := by
  intro pins s σ H xs us Q I r h
  obtain ⟨a, d, rfl, hd, h1, h2, h3, h4, q⟩ := h
  cases r with
  | cons r0 rr =>
    cases rr
    cases r0
    obtain ⟨as, hR⟩ := Dp.reads I d _ _ hd rfl
    refine repr_of_reads' hR h1 (PyData.noDict_hsm h2) hr.gd (by have := hr.un; omega) (fun _ _ z => z) (fun h' u tk kk => ⟨.str d.shown, H, I.kept (t' := tk) kk, ⟨u, rfl⟩, q⟩) h4
end L2

set_option Elab.async false
set_option linter.all false
set_option maxRecDepth 100000
set_option maxHeartbeats 4000000
/-! OwnOps: x == y and x != y by an own __eq__ (any answer, any right side), str(x) by an own __str__, a call of a def through its class. -/
namespace PySem.W
open PySem PySem.Spec PySem.Calls PyProof.Rows
section
variable {prog : Program} {w : World} {A : Around} {E : Value → Shared → Prop} {s : Shared} {K : Frag} {x C f : Addr} {ox : Obj} {od : Option Obj} {b tb : Value}
theorem check_ne {Q : Unit → Shared → Prop} (X : K.In s.heap) (I : InstAt s.heap x ox C od) (hm : mroIn K C (.type "object") = some true) (hq : Q () s) : wpAny (model prog w) A (checkBuiltinCall "object.__ne__" ⟨[.ref x, b], []⟩) Q E s := by
  obtain ⟨hh, g, dr, t, os⟩ := s
  have L0 := I.type (M := model prog w)
  have L1 := looks_mroIn (M := model prog w) X hm
  have ha : argsOk "object.__ne__" ⟨[.ref x, b], []⟩ := F.cmpArgs_ne _ _
  simp only [checkBuiltinCall, F.cmpKind_ne, F.cmpSplit_ne]
  unfold isInstance
  repeat lk
  exact hq
theorem ne_slot : Slot "object" "__ne__" "object.__ne__" :=
  Slot.of (T := "object") (name := "__ne__") (owner := "object") (n := "__ne__") (by rw [typeLookup_type, builtinLookup_eq_fast]; kernel_rfl) (by decide +kernel) (by decide +kernel) (by decide +kernel)
    (.inl (by decide +kernel)) (by rw [isSubtype_type]; kernel_rfl)
theorem ne_bind (self : Value) : bindSpecial (.builtin "object.__ne__") self = pure (.builtin "object.__ne__", [self]) := ne_slot.bind self
theorem ifBound_ne {M : Model} {args : List Value} {Q : Option Value → Shared → Prop} (X : K.In s.heap) (I : InstAt s.heap x ox C od) (hs : findIn K (.ref C) "__ne__" = some (some (.builtin "object.__ne__")))
    (h : wpAny M A (call (.builtin "object.__ne__") (.ref x :: args)) (fun v => Q (some v)) E s) : wpAny M A (callSpecialIfBound? (.ref x) "__ne__" args) Q E s := by
  simp only [callSpecialIfBound?, bindSpecialIfBound?]
  refine wpAny_holding (wpAny_bind (wpAny_bind (wpAny_bind (I.type.here ((looks_findIn X hs).here ?_)))))
  simp only [ne_bind]
  refine wpAny_bind (wpAny_askSetting (wpAny_ite ?_))
  have fin : wpAny M A (call (.builtin "object.__ne__") ([.ref x] ++ args) >>= fun v => pure (some v)) Q E s := wpAny_bind (wpAny_mono h (fun v s' h' => wpAny_pure h') fun _ _ h' => h')
  split
  · exact wpAny_bind (wpAny_pure (wpAny_pure fin))
  · exact wpAny_tryCatch (wpAny_bind (wpAny_pure (wpAny_pure fin)))
theorem ne_entry {Q : Fin → Shared → Prop} (hu : A.units < cLine) (X : K.In s.heap) (I : InstAt s.heap x ox C od) (hs : findIn K (.ref C) "__eq__" = some (some (.ref f))) (hf : isFn K (.ref f) = true)
    (h : wpAny (model prog w) A (call (.ref f) [.ref x, b]) (fun v s' => ∃ r, v = .bool r ∧ Q (.done (.ret (.bool (!r)))) s') E s) :
    wpAny (model prog w) A (Builtin.«object.__ne__» ⟨[.ref x, b], []⟩) Q E s := by
  unfold Builtin.«object.__ne__»
  repeat (first
    | with_reducible refine wpAny_cRoomFor hu ?_
    | (refine wpAny_bind (m := callSpecialIfBound? (.ref x) (Str.ofString "__eq__") [b])
        (ifBound_K X I hs hf (wpAny_mono h (fun r s' hr => by
          obtain ⟨r', rfl, hq⟩ := hr
          repeat (first | exact hq | exact wpAny_pure hq | exact wpAny_truthy_bool hq | (refine wpAny_bind (m := truthy (.bool _)) (wpAny_truthy_bool ?_)) | wp_step)) fun _ _ e => e)))
    | wp_step)
theorem ne_K {L : Addr} {h₀ : Heap} {m : Str → Option Value} {Q : Value → Shared → Prop} (hu : A.units + 1 < cLine) (Fr' : Fr h₀ L s.heap m) (X₀ : K.In h₀) (I : InstAt s.heap x ox C od) (hb : Looks (model prog w) s.heap (typeOf b) tb) (hn : notFirst K C tb = true)
    (hne : findIn K (.ref C) "__ne__" = some (some (.builtin "object.__ne__"))) (hm : mroIn K C (.type "object") = some true)
    (hs : findIn K (.ref C) "__eq__" = some (some (.ref f))) (hf : isFn K (.ref f) = true)
    (h : wpAny (model prog w) A.in1 (call (.ref f) [.ref x, b]) (fun v s' => ∃ r, v = .bool r ∧ Q (.bool (!r)) s') E s) : wpAny (model prog w) A (richCompare .NotEq (.ref x) b) Q E s := by
  have X := X₀.keeps Fr'.keep
  have one : wpAny (model prog w) A (tryCompare (.ref x) (cmpInfo .NotEq).2.1 b) (fun r s' => ∃ v, r = some v ∧ Q v s') E s := by
    unfold tryCompare
    refine wpAny_bind (ifBound_ne X I hne (wpAny_call (codeAny_call_builtin ne_slot.plain F.cmpEntry_ne (check_ne X I hm (ne_entry (A := A.in1) hu X I hs hf (wpAny_mono h (fun v s' hv => ?_) fun _ _ e => e))))))
    obtain ⟨r, rfl, q⟩ := hv
    exact ⟨r, rfl, wpAny_pure ⟨_, rfl, q⟩⟩
  unfold richCompare
  simp only [oneThing_ref]
  refine wpAny_holding (wpAny_bind (wpAny_cRoomFor (Nat.lt_of_succ_lt hu) ?_))
  refine wpAny_bind (I.type.here (wpAny_bind (hb.here ?_)))
  split
  · rename_i q
    have e : subIn K tb (.ref C) = some false := by
      rcases Bool.or_eq_true_iff.mp hn with e | e
      · rw [beq_iff_eq.mp e] at q; simp at q
      · exact beq_iff_eq.mp e
    refine wpAny_bind ((looks_subIn X e).here ?_)
    simp only [Bool.false_eq_true, if_false]
    refine wpAny_bind (wpAny_mono one (fun r s' z => ?_) fun _ _ e => e)
    obtain ⟨v, rfl, hq⟩ := z
    exact wpAny_pure hq
  · refine wpAny_bind (wpAny_pure ?_)
    simp only [Bool.false_eq_true, if_false]
    refine wpAny_bind (wpAny_mono one (fun r s' z => ?_) fun _ _ e => e)
    obtain ⟨v, rfl, hq⟩ := z
    exact wpAny_pure hq
end
end PySem.W
namespace L2
open PySem PySem.Spec PyProof.Rows
/-- what the written part says of the class at C: its own __eq__ at f, and no own __ne__ -/
structure EqC (K : PySem.W.Frag) (C f : Addr) : Prop where
  eq : PySem.W.findIn K (.ref C) "__eq__" = some (some (.ref f))
  fn : PySem.W.isFn K (.ref f) = true
  ne : PySem.W.findIn K (.ref C) "__ne__" = some (some (.builtin "object.__ne__"))
  ob : PySem.W.mroIn K C (.type "object") = some true
/-- x == y, x != y (neg), x an instance of a class with its own __eq__ at f -/
def rEqO (K : PySem.W.Frag) (f : Addr) (sp : Sp) (E : XK) (neg : Bool) : R2 := fun x y H Q => ∃ a C dx fs tb, x = .ref a ∧ H a = some (.ins C dx fs) ∧ EqC K C f ∧ TyX K H y tb ∧ PySem.W.notFirst K C tb = true ∧
  sp [x, y] H (fun v H' => ∃ b, v = .bl b ∧ Q (.bl (xor neg b)) H') E
section
variable {X : Cx} {CX : CXT} {k : Nat} {f C : Addr} {fd : FuncData} {ps : List Str} {sp : Sp} {E : XK}
theorem RoomG.in1 {A : Around} (r : RoomG (k + 1) A) : RoomG k A.in1 := ⟨r.toRoom.in1, r.gd⟩
/-- a def's call from below a body -/
theorem below_fnG {A : Around} {pins : List (Addr × Obj)} {σ : St} {H : Hp} {s : Shared} {Q : VK} {us : List Value} {vs : List V} (F : FnOkG X.prog X.w X.K X.mg X.base CX k f fd ps sp) (hr : RoomG k A) (hfr : A.frames = X.A.frames) (hb : Binds X.K fd ps [])
    (hx : Passes CX X E) (I : Inv X pins σ H s) (r : Vals vs us) (h : sp vs H Q E) : wpAny (model X.prog X.w) A (call (.ref f) us) (EP X pins σ Q) X.xe s := by
  have hl : us.length = ps.length := by rw [← r.length]; exact F.len _ _ _ _ h
  have e0 : Env0 X.prog X.w X.K X.mg X.base A X.stack s H := by
    have e := I.env0
    exact ⟨by rw [hfr]; exact e.frames, e.mod, e.bs, e.bsz, e.funs, e.frf, e.hok, e.bare⟩
  refine wpAny_call (codeAny_mono (F.run A X.stack s H ⟨us, []⟩ us vs Q E hr e0 (by have := hb s us I.kIn (by simpa using hl); simpa using this) r h) fun r s' hq => ?_)
  cases r with
  | error e => exact hx pins σ H s e s' I hq
  | ok fl =>
    cases fl with
    | ret u => exact I.after hq
    | next => exact False.elim hq
    | brk => exact False.elim hq
    | cont => exact False.elim hq
theorem looks_ty {pins : List (Addr × Obj)} {σ : St} {H : Hp} {s : Shared} {x : V} {u t : Value} (I : Inv X pins σ H s) (rx : RelV x u) (ty : TyX X.K H x t) : PySem.W.Looks (model X.prog X.w) s.heap (typeOf u) t := by
  obtain ⟨P, Z, p, hx⟩ := kit_of I rx ty
  exact Z.ty _ _ I.kIn p
theorem op_eqO (F : FnOkG X.prog X.w X.K X.mg X.base CX k f fd ps sp) (hr : RoomG k X.A) (hb : Binds X.K fd ps []) (hx : Passes CX X E) : OpR X (compareOp .Eq) (rEqO X.K f sp E false) := by
  intro pins s σ H x y u v Q I rx ry h
  obtain ⟨a, C, dx, fs, tb, rfl, ha, ec, ty, nf, h⟩ := h
  cases rx
  obtain ⟨mA, J, _⟩ := ins_get I.hok ha
  obtain ⟨od, J, _⟩ := J.look
  obtain ⟨m, hF⟩ := I.fr
  show wpAny (model X.prog X.w) X.A (richCompare .Eq (.ref a) v) (EP X pins σ Q) X.xe s
  refine PySem.W.cmp_K (op := .Eq) (tb := tb) hr.units0 hF I.ok.mod.kin J (looks_ty I ry ty) nf ec.eq ec.fn ?_
  refine wpAny_mono (below_fnG F hr rfl hb hx I (.cons (show RelV (.ref a) (.ref a) from rfl) (.cons ry .nil)) h) (fun z s' q => ?_) fun _ _ e => e
  obtain ⟨w, H', I', rw', b, rfl, q⟩ := q
  cases (show z = Value.bool b from rw')
  exact ⟨.bl b, H', I', rfl, by simpa using q⟩
theorem op_neO (F : FnOkG X.prog X.w X.K X.mg X.base CX k f fd ps sp) (hr : RoomG (k + 1) X.A) (hb : Binds X.K fd ps []) (hx : Passes CX X E) : OpR X (compareOp .NotEq) (rEqO X.K f sp E true) := by
  intro pins s σ H x y u v Q I rx ry h
  obtain ⟨a, C, dx, fs, tb, rfl, ha, ec, ty, nf, h⟩ := h
  cases rx
  obtain ⟨mA, J, _⟩ := ins_get I.hok ha
  obtain ⟨od, J, _⟩ := J.look
  obtain ⟨m, hF⟩ := I.fr
  show wpAny (model X.prog X.w) X.A (richCompare .NotEq (.ref a) v) (EP X pins σ Q) X.xe s
  refine PySem.W.ne_K (tb := tb) (by have := hr.un; omega) hF I.ok.mod.kin J (looks_ty I ry ty) nf ec.ne ec.ob ec.eq ec.fn ?_
  refine wpAny_mono (below_fnG F hr.in1 rfl hb hx I (.cons (show RelV (.ref a) (.ref a) from rfl) (.cons ry .nil)) h) (fun z s' q => ?_) fun _ _ e => e
  obtain ⟨w, H', I', rw', b, rfl, q⟩ := q
  cases (show z = Value.bool b from rw')
  exact ⟨b, rfl, .bl (!b), H', I', rfl, by simpa using q⟩
/-! ### str(x) -/
structure StrC (K : PySem.W.Frag) (C f : Addr) : Prop where
  at_ : PySem.W.findIn K (.ref C) "__str__" = some (some (.ref f))
  fn : PySem.W.isFn K (.ref f) = true
def rStrO (K : PySem.W.Frag) (f : Addr) (sp : Sp) (E : XK) : List V → Hp → VK → Prop := fun xs H Q => ∃ a C dx fs, xs = [.ref a] ∧ H a = some (.ins C dx fs) ∧ StrC K C f ∧ sp xs H (fun v H' => ∃ z, v = .str z ∧ Q v H') E
theorem call_strO (F : FnOkG X.prog X.w X.K X.mg X.base CX k f fd ps sp) (hr : RoomG (k + 2) X.A) (hb : Binds X.K fd ps []) (hx : Passes CX X E) : CallR X (.type "str") (rStrO X.K f sp E) := by
  intro pins s σ H xs us Q I r h
  obtain ⟨a, C, dx, fs, rfl, ha, sc, h⟩ := h
  cases r with
  | cons r0 rr =>
    cases rr
    cases r0
    obtain ⟨mA, J, _⟩ := ins_get I.hok ha
    obtain ⟨od, J, _⟩ := J.look
    refine PySem.W.kso_call (by have := hr.in1.in1.un; omega) I.kIn J sc.at_ sc.fn ?_
    refine wpAny_mono (below_fnG F hr.in1.in1 rfl hb hx I (.cons (show RelV (.ref a) (.ref a) from rfl) .nil) h) (fun z s' q => ?_) fun _ _ e => e
    obtain ⟨w, H', I', rw', t, rfl, q⟩ := q
    obtain ⟨tk, rfl⟩ := (show ∃ tk, z = Value.str t tk from rw')
    exact ⟨.str t, H', I', ⟨tk, rfl⟩, q⟩
/-! ### C.m(e, ..), m a def of the class at C -/
structure CFn (K : PySem.W.Frag) (C : Addr) (mc : Value) (m : Str) (g : Addr) : Prop where
  rd : ClX.CRead K C mc
  at_ : PySem.W.findCls K (.ref C) mc m = some (.val (.ref g))
  hh : PySem.W.handedIn (.ref g) = true
  kp : PySem.W.keepIn K (.ref g) = true
def tCFn (C : Addr) (sp : Sp) (dvs : List V) (E : XK) (ta : TE) (t : TA) : TE := fun σ H Q => ta σ H fun x H1 => x = .ref C ∧ t σ H1 fun vs H2 => sp (vs ++ dvs) H2 Q E
theorem pe_cfn {mc : Value} {m : Str} {o e : Expr} {es : List Expr} {apos pos : Pos} {ta : TE} {t : TA} {dvs : List V} {ds : List Value} {pl : Sem Bool} (he : PE X o ta) (c : CFn X.K C mc m f) (F : FnOkG X.prog X.w X.K X.mg X.base CX k f fd ps sp) (hr : RoomG k X.A) (hb : Binds X.K fd ps ds) (hd : Vals dvs ds)
    (hx : Passes CX X E) (ha : PA X (e :: es) t)
    (hst : starEach (e :: es) X.env = (false, eval e X.env) :: starEach es X.env := by rfl) (hpl : (backTo pos (starEach es X.env)).any (·.1) = false := by rfl)
    (ht : eval (.Call (.Attribute o m apos) (e :: es) [] pos) X.env = (do
      let ov ← eval o X.env
      standAt apos.atName
      let (f, first) ← holding [ov] (getMethod ov m pl)
      callWith pos f first (backTo pos (starEach (e :: es) X.env)) (backToKw pos (keywordEach [] X.env))) := by rfl) :
    PE X (.Call (.Attribute o m apos) (e :: es) [] pos) (tCFn C sp dvs E ta t) := by
  refine ⟨fun pins s σ H Q I h => ?_⟩
  refine PySem.W.methodCall_KW (pl := pl) (thn (he.run pins s σ H _ I h) fun u s1 ⟨x, H1, I1, rx, ex, q⟩ => ?_) ht
  subst ex
  obtain rfl : u = Value.ref C := rx
  refine PySem.W.method_cls I1.kIn c.rd.ga (PySem.W.cls_value I1.kIn c.rd.rd c.at_ c.hh ?_)
  refine PySem.W.callWith_K (h₀ := X.base) I1.ok.mod.kin c.kp (thn (ha.run pos pins _ σ H1 _ (I1.tok _) q) fun us s2 ⟨vs, H2, I2, rv, q2⟩ => ⟨I2.kIn, ?_⟩) hst hpl
  exact run_fnG F hr hb hd hx I2 rv q2
end
end L2

set_option Elab.async false
set_option linter.all false
set_option maxRecDepth 100000
set_option maxHeartbeats 4000000
/-! OwnOps2: C.m(e, ..) and C.m(e, *y), m a def of the class C, with plain room; o.m() by the class that o turns out to be. -/
namespace L2
open PySem PySem.Spec PyProof.Rows
section
variable {X : Cx} {CX : CXT} {k : Nat} {f C : Addr} {fd : FuncData} {ps : List Str} {sp : Sp} {E : XK}
theorem pe_cfn0 {mc : Value} {m : Str} {o e : Expr} {es : List Expr} {apos pos : Pos} {ta : TE} {t : TA} {dvs : List V} {ds : List Value} {pl : Sem Bool} (he : PE X o ta) (c : CFn X.K C mc m f) (F : FnOk X.prog X.w X.K X.mg X.base CX k f fd ps sp) (hr : Room k X.A) (hb : Binds X.K fd ps ds) (hd : Vals dvs ds)
    (hx : Passes CX X E) (ha : PA X (e :: es) t)
    (hst : starEach (e :: es) X.env = (false, eval e X.env) :: starEach es X.env := by rfl) (hpl : (backTo pos (starEach es X.env)).any (·.1) = false := by rfl)
    (ht : eval (.Call (.Attribute o m apos) (e :: es) [] pos) X.env = (do
      let ov ← eval o X.env
      standAt apos.atName
      let (f, first) ← holding [ov] (getMethod ov m pl)
      callWith pos f first (backTo pos (starEach (e :: es) X.env)) (backToKw pos (keywordEach [] X.env))) := by rfl) :
    PE X (.Call (.Attribute o m apos) (e :: es) [] pos) (tCFn C sp dvs E ta t) := by
  refine ⟨fun pins s σ H Q I h => ?_⟩
  refine PySem.W.methodCall_KW (pl := pl) (thn (he.run pins s σ H _ I h) fun u s1 ⟨x, H1, I1, rx, ex, q⟩ => ?_) ht
  subst ex
  obtain rfl : u = Value.ref C := rx
  refine PySem.W.method_cls I1.kIn c.rd.ga (PySem.W.cls_value I1.kIn c.rd.rd c.at_ c.hh ?_)
  refine PySem.W.callWith_K (h₀ := X.base) I1.ok.mod.kin c.kp (thn (ha.run pos pins _ σ H1 _ (I1.tok _) q) fun us s2 ⟨vs, H2, I2, rv, q2⟩ => ⟨I2.kIn, ?_⟩) hst hpl
  exact run_fn F hr hb hd hx I2 rv q2
/-- C.m(e1, *e2) -/
def tCFnS (K : PySem.W.Frag) (C : Addr) (sp : Sp) (E : XK) (ta t1 t2 : TE) : TE := fun σ H Q => ta σ H fun x H1 => x = .ref C ∧ t1 σ H1 fun y1 H2 => t2 σ H2 fun y2 H3 => ∃ b vs, y2 = .ref b ∧ (SqT K H3 b vs ∨ SqL K H3 b vs) ∧ sp (y1 :: vs) H3 Q E
theorem pe_cfnS {mc : Value} {m : Str} {o e1 e2 : Expr} {p apos pos : Pos} {ta t1 t2 : TE} (he : PE X o ta) (c : CFn X.K C mc m f) (F : FnR X.prog X.w X.K X.mg X.base CX k f sp) (hr : Room k X.A) (hx : Passes CX X E) (h1 : PE X e1 t1) (h2 : PE X e2 t2)
    (hbase : attributeBase o m X.env (eval o X.env) = eval o X.env := by rfl) (hst : starEach [e1, .Starred e2 p] X.env = [(false, eval e1 X.env), (true, eval e2 X.env)] := by rfl) :
    PE X (.Call (.Attribute o m apos) [e1, .Starred e2 p] [] pos) (tCFnS X.K C sp E ta t1 t2) := by
  refine ⟨fun pins s σ H Q I h => ?_⟩
  refine starcall2_of hbase hst (thn (he.run pins s σ H _ I h) fun u s1 ⟨x, H1, I1, rx, ex, q⟩ => ?_)
  subst ex
  obtain rfl : u = Value.ref C := rx
  refine PySem.W.cls_value I1.kIn c.rd.rd c.at_ c.hh ?_
  refine PySem.W.ks_call rfl (PySem.W.keeps_K c.kp) (Calls.evalArgs_plain (Calls.spliced_cons (thn (h1.run pins _ σ H1 _ (I1.tok _) q) fun v1 s3 ⟨y1, H2, I3, ry1, q2⟩ =>
    PySem.W.ks_spliced (thn (h2.run pins s3 σ H2 _ I3 q2) fun v2 s4 ⟨y2, H3, I4, ry2, t, vs, ey, ht, hsp⟩ => ?_))))
  subst ey
  obtain rfl : v2 = Value.ref t := ry2
  refine StX.star_any I4 ht fun us s5 I5 rv => Calls.spliced_nil ?_
  show X.K.In s5.heap ∧ wpAny (model X.prog X.w) X.A (call (.ref f) (v1 :: (us ++ [])) []) (EP X pins σ Q) X.xe s5
  rw [List.append_nil]
  exact ⟨I5.kIn, wpAny_call (run_fnR (us := v1 :: us) (vs := y1 :: vs) F hr hx I5 (.cons ry1 rv) hsp)⟩
/-- what a class has for the call o.m() -/
def DynM (X : Cx) (CX : CXT) (k : Nat) (m : Str) (C : Addr) (sp : Sp) : Prop := ∃ f fd ps, Cls X.K C ∧ Meth X.K C m f ∧ FnOk X.prog X.w X.K X.mg X.base CX k f fd ps sp ∧ Binds X.K fd ps []
def tMethD (T : Addr → Sp → Prop) (m : Str) (E : XK) (ta : TE) : TE := fun σ H Q => ta σ H fun x H1 => ∃ a C dx fs sp, x = .ref a ∧ H1 a = some (.ins C dx fs) ∧ fs.lookup m = none ∧ T C sp ∧ sp [x] H1 Q E
theorem pe_methD {T : Addr → Sp → Prop} {m : Str} {o : Expr} {ta : TE} {apos pos : Pos} {pl : Sem Bool} (he : PE X o ta) (hT : ∀ C sp, T C sp → DynM X CX k m C sp) (hr : Room k X.A) (hx : Passes CX X E)
    (ht : eval (.Call (.Attribute o m apos) [] [] pos) X.env = (do
      let ov ← eval o X.env
      standAt apos.atName
      let (f, first) ← holding [ov] (getMethod ov m pl)
      callWith pos f first (backTo pos (starEach [] X.env)) (backToKw pos (keywordEach [] X.env))) := by rfl) :
    PE X (.Call (.Attribute o m apos) [] [] pos) (tMethD T m E ta) := by
  refine ⟨fun pins s σ H Q I h => ?_⟩
  refine PySem.W.methodCall_KW (pl := pl) (thn (he.run pins s σ H _ I h) fun u s1 ⟨x, H1, I1, rx, a, C, dx, fs, sp, ex, ea, l, t, q⟩ => ?_) ht
  subst ex
  obtain rfl : u = Value.ref a := rx
  obtain ⟨f, fd, ps, c, hm, F, hb⟩ := hT C sp t
  refine getmeth_ok I1 ea c hm l ?_
  exact PySem.W.callWith_K0 (first := [.ref a]) I1.kIn hm.kp (run_fn (us := [.ref a]) (vs := [.ref a]) (ds := []) (dvs := []) F hr hb .nil hx I1 (.cons rfl .nil) q)
end
end L2

set_option Elab.async false
set_option linter.all false
set_option maxRecDepth 100000
set_option maxHeartbeats 4000000
/-! RX1: readings answered by reckoning, with a way out by an error: values W, objects OB, unknown values with menus, the link Den between them and the abstract heap; for each reading t a function f that decides it (Sat f t). -/
namespace L2
open PySem
/-- at e: a caught error of the class at C, its dict at d -/
def exk (e C : Addr) (d : Option Addr) : HO := .ext fun h => ∃ (oe : Obj) (vs : Array Value), h.get? e = some oe ∧ oe.cls = .ref C ∧ oe.dict = d ∧ oe.data = .fields vs
end L2
namespace RX
open PySem L2

structure Wd where
  ad : List Addr
  sv : List V
def Wd.le (a b : Wd) : Prop := (∃ t, a.ad ++ t = b.ad) ∧ ∃ t, a.sv ++ t = b.sv
theorem Wd.le.trans {a b c : Wd} : Wd.le a b → Wd.le b c → Wd.le a c
  | ⟨⟨t, h⟩, u, g⟩, ⟨⟨t', h'⟩, u', g'⟩ => ⟨⟨t ++ t', by rw [← h', ← h, List.append_assoc]⟩, u ++ u', by rw [← g', ← g, List.append_assoc]⟩
def Wd.push (a : Wd) (p : Addr) : Wd := ⟨a.ad ++ [p], a.sv⟩
@[simp] theorem push_ad {a : Wd} {p : Addr} : (a.push p).ad = a.ad ++ [p] := rfl
def Wd.know (a : Wd) (v : V) : Wd := ⟨a.ad, a.sv ++ [v]⟩
def Wd.cut (a : Wd) (n j : Nat) : Wd := ⟨a.ad.take n, a.sv.take j⟩
theorem Wd.cut_ad {a : Wd} {n j : Nat} : (a.cut n j).ad = a.ad.take n := rfl
theorem Wd.cut_sv {a : Wd} {n j : Nat} : (a.cut n j).sv = a.sv.take j := rfl
/-- the own classes (and written tuples) by number; how much later the draws are counted; the root world; the tables of code objects -/
structure CL where
  adr : Nat → Addr
  sh : Nat
  wd : Wd
  tb : List (Addr × Str)
/-- a word of a text: as written; an unknown text -/
inductive WD where
  | lit (x : Str) | var (k : Nat)
inductive W where
  | non | bl (b : Bool) | int (i : Int) | str (x : Str) | ref (k : Nat) | ty (n : String) | cls (c : Nat) | jn (ws : List WD) | var (k : Nat)
inductive OB where
  | lst (xs : List W) | tup (xs : List W) | dK (kvs : List (Key × W)) | xd (fs : List (Str × W)) | exk (c : Nat) (d : Option Nat) | pen (q b : Nat) | cells | ins (c : Nat) (fs : List (Str × W))
/-- a state: the objects, the newest first; the menus of the unknown values, the newest first -/
structure SS where
  ob : List OB
  mn : List (List W)
/-! lists, by their recursor (quick to reckon) -/
noncomputable def getR {α : Type} (l : List α) (k : Nat) : Option α := @List.rec α (fun _ => Nat → Option α) (fun _ => none) (fun a _ ih k => @Nat.rec (fun _ => Option α) (some a) (fun j _ => ih j) k) l k
noncomputable def setR {α : Type} (l : List α) (k : Nat) (b : α) : List α := @List.rec α (fun _ => Nat → List α) (fun _ => []) (fun a t ih k => @Nat.rec (fun _ => List α) (b :: t) (fun j _ => a :: ih j) k) l k
noncomputable def lenR {α : Type} (l : List α) : Nat := @List.rec α (fun _ => Nat) 0 (fun _ _ ih => Nat.succ ih) l
noncomputable def appR {α : Type} (l m : List α) : List α := @List.rec α (fun _ => List α) m (fun a _ ih => a :: ih) l
theorem getR_eq {α : Type} : ∀ (l : List α) (k : Nat), getR l k = l[k]?
  | [], _ => rfl
  | _ :: _, 0 => rfl
  | _ :: l, k + 1 => (getR_eq l k).trans (List.getElem?_cons_succ ..).symm
theorem setR_eq {α : Type} : ∀ (l : List α) (k : Nat) (b : α), setR l k b = l.set k b
  | [], _, _ => rfl
  | _ :: _, 0, _ => rfl
  | a :: l, k + 1, b => congrArg (a :: ·) (setR_eq l k b)
theorem lenR_eq {α : Type} : ∀ l : List α, lenR l = l.length
  | [] => rfl
  | _ :: l => congrArg Nat.succ (lenR_eq l)
theorem appR_eq {α : Type} : ∀ l m : List α, appR l m = l ++ m
  | [], _ => rfl
  | a :: l, m => congrArg (a :: ·) (appR_eq l m)
/-! by place from the end -/
noncomputable def rget {α : Type} (l : List α) (k : Nat) : Option α := match Nat.blt k (lenR l) with
  | true => getR l (Nat.sub (lenR l) (Nat.succ k))
  | false => none
noncomputable def rset {α : Type} (l : List α) (k : Nat) (o : α) : List α := setR l (Nat.sub (lenR l) (Nat.succ k)) o
theorem rget_eq {α : Type} (l : List α) (k : Nat) : rget l k = l.reverse[k]? := by
  unfold rget
  rw [lenR_eq]
  cases h : Nat.blt k l.length with
  | true =>
    have hk : k < l.length := PySem.W.Z.blt_iff.mp h
    show getR l (l.length - (k + 1)) = _
    rw [getR_eq, List.getElem?_reverse hk]
    congr 1
    omega
  | false =>
    have hk : ¬ k < l.length := fun q => by
      have : Nat.blt k l.length = true := PySem.W.Z.blt_iff.mpr q
      rw [this] at h; cases h
    rw [List.getElem?_eq_none (by simpa using hk)]
theorem rset_len {α : Type} (l : List α) (k : Nat) (o : α) : (rset l k o).length = l.length := by unfold rset; rw [setR_eq]; simp
theorem rset_rev {α : Type} (l : List α) (k : Nat) (o : α) (h : k < l.length) : (rset l k o).reverse = l.reverse.set k o := by
  show (setR l (Nat.sub (lenR l) (Nat.succ k)) o).reverse = _
  rw [setR_eq, lenR_eq]
  show (l.set (l.length - (k + 1)) o).reverse = _
  apply List.ext_getElem?
  intro j
  by_cases hj : j < l.length
  · rw [List.getElem?_reverse (by simpa using hj), List.getElem?_set, List.getElem?_set, List.length_set, List.length_reverse, List.getElem?_reverse hj]
    by_cases e : k = j
    · subst e
      rw [if_pos (by omega), if_pos rfl, if_pos (by omega), if_pos h]
    · rw [if_neg (by omega), if_neg e]
  · rw [List.getElem?_eq_none (by simpa using hj), List.getElem?_eq_none (by simpa using hj)]
theorem rget_lt {α : Type} {l : List α} {k : Nat} {o : α} (h : rget l k = some o) : k < l.length := by
  rw [rget_eq] at h
  simpa using (List.getElem?_eq_some_iff.mp h).1
theorem rget_rset {α : Type} {l : List α} {k : Nat} {o : α} (h : k < l.length) (j : Nat) : rget (rset l k o) j = if k = j then some o else rget l j := by
  rw [rget_eq, rget_eq, rset_rev l k o h]
  by_cases e : k = j
  · subst e
    rw [if_pos rfl, List.getElem?_set_self (by simpa using h)]
  · rw [if_neg e, List.getElem?_set_ne e]
theorem rget_cons {α : Type} {l : List α} {o : α} (j : Nat) : rget (o :: l) j = if j = l.length then some o else rget l j := by
  rw [rget_eq, rget_eq, List.reverse_cons]
  by_cases e : j = l.length
  · rw [if_pos e, e, List.getElem?_append_right (by simp)]
    simp
  · rw [if_neg e]
    by_cases h : j < l.length
    · rw [List.getElem?_append_left (by simpa using h)]
    · rw [List.getElem?_eq_none (by simp; omega), List.getElem?_eq_none (by simp; omega)]
noncomputable def lenS (S : SS) : Nat := lenR S.ob
noncomputable def getS (S : SS) (k : Nat) : Option OB := rget S.ob k
noncomputable def pushS (S : SS) (o : OB) : SS := ⟨o :: S.ob, S.mn⟩
noncomputable def setS (S : SS) (k : Nat) (o : OB) : SS := ⟨rset S.ob k o, S.mn⟩
noncomputable def getM (S : SS) (k : Nat) : Option (List W) := rget S.mn k
noncomputable def setM (S : SS) (k : Nat) (ws : List W) : SS := ⟨S.ob, rset S.mn k ws⟩
noncomputable def pushM (S : SS) (ws : List W) : SS := ⟨S.ob, ws :: S.mn⟩

abbrev EE := List (Option W)
def RelD (sv : List V) : WD → List Nat → Prop
  | .lit x, z => z = x.cps.toList
  | .var k, z => ∃ x, sv[k]? = some (.str x) ∧ z = x.cps.toList
def RelWA (adr : Nat → Addr) (ρ : Wd) : W → V → Prop
  | .non, v => v = .non
  | .bl b, v => v = .bl b
  | .int i, v => v = .int i
  | .str x, v => v = .str x
  | .ref k, v => ∃ a, ρ.ad[k]? = some a ∧ v = .ref a
  | .ty n, v => v = .ty n
  | .cls c, v => v = .ref (adr c)
  | .jn ws, v => ∃ (zs : List (List Nat)) (z : Str), Paired (RelD ρ.sv) ws zs ∧ z.cps.toList = TL.joinL [32] zs ∧ v = .str z
  | .var k, v => ρ.sv[k]? = some v
abbrev RelW (cl : CL) (ρ : Wd) : W → V → Prop := RelWA cl.adr ρ
abbrev RelWs (cl : CL) (ρ : Wd) : List W → List V → Prop := Paired (RelW cl ρ)
def RelFA (adr : Nat → Addr) (ρ : Wd) : List (Str × W) → List (Str × V) → Prop := Paired fun p q => p.1 = q.1 ∧ RelWA adr ρ p.2 q.2
abbrev RelF (cl : CL) (ρ : Wd) : List (Str × W) → List (Str × V) → Prop := RelFA cl.adr ρ
def RelKA (adr : Nat → Addr) (ρ : Wd) : List (Key × W) → List (Key × V) → Prop := Paired fun p q => p.1 = q.1 ∧ RelWA adr ρ p.2 q.2
abbrev RelK (cl : CL) (ρ : Wd) : List (Key × W) → List (Key × V) → Prop := RelKA cl.adr ρ
def RelOA (adr : Nat → Addr) (sh : Nat) (ρ : Wd) (a : Addr) : OB → HO → Prop
  | .lst xs, u => ∃ vs, u = .lst vs ∧ Paired (RelWA adr ρ) xs vs
  | .tup xs, u => ∃ vs, u = .tup vs ∧ Paired (RelWA adr ρ) xs vs
  | .dK kvs, u => ∃ vs, u = .dK vs ∧ RelKA adr ρ kvs vs
  | .xd fs, u => ∃ vs, u = .xd vs ∧ RelFA adr ρ fs vs
  | .exk c none, u => u = L2.exk a (adr c) none
  | .exk c (some k), u => ∃ dx, ρ.ad[k]? = some dx ∧ u = L2.exk a (adr c) (some dx)
  | .pen q b, u => ∃ (aq : Addr) (i g : Int), ρ.ad[q]? = some aq ∧ u = .lst [.ref aq, .int i, .int g] ∧ 0 ≤ i ∧ i + (sh : Int) ≤ (b : Int) ∧ 0 ≤ g
  | .cells, u => ∃ ns : List Int, u = .lst (ns.map V.int) ∧ ns.length ≤ 63
  | .ins c fs, u => ∃ dx vs, u = .ins (adr c) dx vs ∧ RelFA adr ρ fs vs
abbrev RelO (cl : CL) (ρ : Wd) (a : Addr) : OB → HO → Prop := RelOA cl.adr cl.sh ρ a
def RelEA (adr : Nat → Addr) (ρ : Wd) : EE → St → Prop := Paired fun ow ov => ∀ w, ow = some w → ∃ v, ov = some v ∧ RelWA adr ρ w v
abbrev RelE (cl : CL) (ρ : Wd) : EE → St → Prop := RelEA cl.adr ρ
def MnOk (adr : Nat → Addr) (ρ : Wd) (mn : List (List W)) : Prop := ρ.sv.length = mn.length ∧ ∀ k ws, rget mn k = some ws → ∃ v w, ρ.sv[k]? = some v ∧ w ∈ ws ∧ RelWA adr ρ w v
structure Den (cl : CL) (ρ : Wd) (S : SS) (H : Hp) : Prop where
  len : ρ.ad.length = S.ob.length
  mn : MnOk cl.adr ρ S.mn
  nd : ρ.ad.Nodup
  at' : ∀ (k : Nat) (o : OB) (a : Addr), getS S k = some o → ρ.ad[k]? = some a → ∃ u, H a = some u ∧ RelO cl ρ a o u
  ge : Wd.le cl.wd ρ
  tb : LamX.Tabs cl.tb H

/-! ### growing -/
variable {cl : CL} {adr : Nat → Addr}
theorem get_app {ρ ρ' : Wd} (h : Wd.le ρ ρ') {k : Nat} {a : Addr} (e : ρ.ad[k]? = some a) : ρ'.ad[k]? = some a := by
  obtain ⟨⟨t, h⟩, _⟩ := h
  rw [← h, List.getElem?_append_left]
  · exact e
  · exact (List.getElem?_eq_some_iff.mp e).1
theorem get_sv {ρ ρ' : Wd} (h : Wd.le ρ ρ') {k : Nat} {a : V} (e : ρ.sv[k]? = some a) : ρ'.sv[k]? = some a := by
  obtain ⟨_, t, h⟩ := h
  rw [← h, List.getElem?_append_left]
  · exact e
  · exact (List.getElem?_eq_some_iff.mp e).1
theorem Paired.imp {α β : Type} {R T : α → β → Prop} (f : ∀ a b, R a b → T a b) : ∀ {l : List α} {m : List β}, Paired R l m → Paired T l m
  | _, _, .nil => .nil
  | _, _, .cons r t => .cons (f _ _ r) (Paired.imp f t)
theorem RelD.mono {ρ ρ' : Wd} (h : Wd.le ρ ρ') : ∀ {w : WD} {z : List Nat}, RelD ρ.sv w z → RelD ρ'.sv w z
  | .lit _, _, r => r
  | .var _, _, ⟨x, e, r⟩ => ⟨x, get_sv h e, r⟩
theorem RelWA.mono {ρ ρ' : Wd} (h : Wd.le ρ ρ') : ∀ {w : W} {v : V}, RelWA adr ρ w v → RelWA adr ρ' w v
  | .non, _, r | .bl _, _, r | .int _, _, r | .str _, _, r | .ty _, _, r | .cls _, _, r => r
  | .ref k, v, ⟨a, e, r⟩ => ⟨a, get_app h e, r⟩
  | .jn ws, v, ⟨zs, z, p, e, r⟩ => ⟨zs, z, Paired.imp (fun _ _ q => RelD.mono h q) p, e, r⟩
  | .var k, v, r => get_sv h (show ρ.sv[k]? = some v from r)
theorem RelW.mono {ρ ρ' : Wd} (h : Wd.le ρ ρ') {w : W} {v : V} (r : RelW cl ρ w v) : RelW cl ρ' w v := RelWA.mono h r
theorem RelWs.mono {ρ ρ' : Wd} (h : Wd.le ρ ρ') {xs : List W} {vs : List V} (r : RelWs cl ρ xs vs) : RelWs cl ρ' xs vs := Paired.imp (fun _ _ q => RelWA.mono h q) r
theorem RelF.mono {ρ ρ' : Wd} (h : Wd.le ρ ρ') {xs : List (Str × W)} {vs : List (Str × V)} (r : RelFA adr ρ xs vs) : RelFA adr ρ' xs vs := Paired.imp (fun _ _ q => ⟨q.1, RelWA.mono h q.2⟩) r
theorem RelK.mono {ρ ρ' : Wd} (h : Wd.le ρ ρ') {xs : List (Key × W)} {vs : List (Key × V)} (r : RelKA adr ρ xs vs) : RelKA adr ρ' xs vs := Paired.imp (fun _ _ q => ⟨q.1, RelWA.mono h q.2⟩) r
theorem RelE.mono {ρ ρ' : Wd} (h : Wd.le ρ ρ') {E : EE} {σ : St} (r : RelE cl ρ E σ) : RelE cl ρ' E σ := Paired.imp (fun _ _ q w e => let ⟨v, a, b⟩ := q w e; ⟨v, a, RelWA.mono h b⟩) r
theorem RelOA.mono {sh : Nat} {ρ ρ' : Wd} (h : Wd.le ρ ρ') {a : Addr} : ∀ {o : OB} {u : HO}, RelOA adr sh ρ a o u → RelOA adr sh ρ' a o u
  | .lst _, _, ⟨vs, e, r⟩ => ⟨vs, e, Paired.imp (fun _ _ q => RelWA.mono h q) r⟩
  | .tup _, _, ⟨vs, e, r⟩ => ⟨vs, e, Paired.imp (fun _ _ q => RelWA.mono h q) r⟩
  | .dK _, _, ⟨vs, e, r⟩ => ⟨vs, e, RelK.mono h r⟩
  | .xd _, _, ⟨vs, e, r⟩ => ⟨vs, e, RelF.mono h r⟩
  | .exk _ none, _, e => e
  | .exk _ (some _), _, ⟨dx, e, r⟩ => ⟨dx, get_app h e, r⟩
  | .pen _ _, _, ⟨aq, i, g, e, r⟩ => ⟨aq, i, g, get_app h e, r⟩
  | .cells, _, r => r
  | .ins _ _, _, ⟨dx, vs, e, r⟩ => ⟨dx, vs, e, RelF.mono h r⟩
theorem MnOk.mono {ρ : Wd} {p : Addr} {mn : List (List W)} (h : MnOk adr ρ mn) : MnOk adr (ρ.push p) mn := ⟨h.1, fun k ws e => let ⟨v, w, a, b, c⟩ := h.2 k ws e; ⟨v, w, a, b, RelWA.mono ⟨⟨[p], rfl⟩, [], by simp [Wd.push]⟩ c⟩⟩
theorem pre_refl {ρ : Wd} : Wd.le ρ ρ := ⟨⟨[], by simp⟩, [], by simp⟩
theorem pre_app {ρ : Wd} {p : Addr} : Wd.le ρ (ρ.push p) := ⟨⟨[p], rfl⟩, [], by simp [Wd.push]⟩
theorem pre_know {ρ : Wd} {v : V} : Wd.le ρ (ρ.know v) := ⟨⟨[], by simp [Wd.know]⟩, [v], rfl⟩

section
variable {ρ : Wd} {S : SS} {H : Hp}
theorem getS_rev (S : SS) (k : Nat) : getS S k = S.ob.reverse[k]? := rget_eq _ _
theorem Den.get (D : Den cl ρ S H) {k : Nat} {o : OB} (h : getS S k = some o) : ∃ a u, ρ.ad[k]? = some a ∧ H a = some u ∧ RelO cl ρ a o u := by
  have hk : k < ρ.ad.length := by rw [D.len]; exact rget_lt h
  obtain ⟨u, a, b⟩ := D.at' k o ρ.ad[k] h (List.getElem?_eq_getElem hk)
  exact ⟨_, u, List.getElem?_eq_getElem hk, a, b⟩
theorem Den.there (D : Den cl ρ S H) {k : Nat} {a : Addr} (h : ρ.ad[k]? = some a) : ∃ u, H a = some u := by
  have hk : k < S.ob.reverse.length := by rw [List.length_reverse, ← D.len]; exact (List.getElem?_eq_some_iff.mp h).1
  obtain ⟨u, e, _⟩ := D.at' k S.ob.reverse[k] a ((getS_rev _ _).trans (List.getElem?_eq_getElem hk)) h
  exact ⟨u, e⟩
theorem Den.fresh (D : Den cl ρ S H) {p : Addr} (hp : H p = none) : p ∉ ρ.ad := fun h => by
  obtain ⟨k, hk, e⟩ := List.getElem_of_mem h
  obtain ⟨u, q⟩ := D.there (k := k) (a := p) (by rw [List.getElem?_eq_getElem hk, e])
  rw [hp] at q
  cases q
theorem ne_upd {H : Hp} {p b : Addr} {u o : HO} (hp : H p = none) (e : H b = some o) : upd H p u b = some o := by
  rw [upd_ne]
  · exact e
  · intro z; subst z; rw [hp] at e; cases e
/-- a new object -/
theorem Den.new (D : Den cl ρ S H) {p : Addr} {o : OB} {u : HO} (hp : H p = none) (r : RelO cl (ρ.push p) p o u) : Den cl (ρ.push p) (pushS S o) (upd H p u) := by
  have np := D.fresh hp
  refine ⟨by simp [D.len, pushS], D.mn.mono, ?_, fun k o' a h1 h2 => ?_, D.ge.trans pre_app, D.tb.ext fun b o e => ne_upd hp e⟩
  · rw [push_ad, List.nodup_append]
    refine ⟨D.nd, by simp, fun a ha b hb => ?_⟩
    simp only [List.mem_singleton] at hb
    subst hb
    intro e; subst e; exact np ha
  · unfold getS pushS at h1
    rw [rget_cons] at h1
    rw [push_ad] at h2
    by_cases hk : k = S.ob.length
    · rw [if_pos hk] at h1
      cases h1
      rw [List.getElem?_append_right (by rw [D.len]; omega)] at h2
      simp [D.len, hk] at h2
      subst h2
      exact ⟨u, upd_same, r⟩
    · rw [if_neg hk] at h1
      have := rget_lt h1
      rw [List.getElem?_append_left (by rw [D.len]; exact this)] at h2
      obtain ⟨u', e, q⟩ := D.at' k o' a h1 h2
      exact ⟨u', ne_upd hp e, RelOA.mono pre_app q⟩
theorem new_at (D : Den cl ρ S H) {p : Addr} : (ρ.push p).ad[lenS S]? = some p := by
  rw [push_ad, lenS, lenR_eq, List.getElem?_append_right (by rw [D.len]; exact Nat.le_refl _)]
  simp [D.len]
/-- what an object's change may change -/
def SetOk : HO → Prop
  | .lst _ => True
  | .dK _ => True
  | .ins _ _ _ => True
  | _ => False
theorem tabs_set {T : List (Addr × Str)} {H : Hp} {a : Addr} {u u' : HO} (t : LamX.Tabs T H) (e : H a = some u) (ok : SetOk u) : LamX.Tabs T (upd H a u') := fun p hp => by
  obtain ⟨ps, h1, h2, h3⟩ := t p hp
  refine ⟨ps, ?_, h2, fun pos cv hc => ?_⟩
  · rw [upd_ne]
    · exact h1
    · intro z; rw [z, e] at h1; cases h1; exact ok
  · obtain ⟨c, e1, e2⟩ := h3 pos cv hc
    refine ⟨c, e1, ?_⟩
    rw [upd_ne]
    · exact e2
    · intro z; rw [z, e] at e2; cases e2; exact ok
/-- an object changed -/
theorem Den.set (D : Den cl ρ S H) {k : Nat} {a : Addr} {o : OB} {u u0 : HO} (ha : ρ.ad[k]? = some a) (e0 : H a = some u0) (ok : SetOk u0) (r : RelO cl ρ a o u) : Den cl ρ (setS S k o) (upd H a u) := by
  have hk : k < S.ob.length := by rw [← D.len]; exact (List.getElem?_eq_some_iff.mp ha).1
  refine ⟨by show _ = (rset S.ob _ o).length; rw [rset_len]; exact D.len, D.mn, D.nd, fun j o' b h1 h2 => ?_, D.ge, tabs_set D.tb e0 ok⟩
  unfold getS setS at h1
  rw [rget_rset hk] at h1
  by_cases hj : k = j
  · subst hj
    rw [if_pos rfl] at h1
    cases h1
    rw [ha] at h2
    cases h2
    exact ⟨u, upd_same, r⟩
  · rw [if_neg hj] at h1
    obtain ⟨u', e, q⟩ := D.at' j o' b h1 h2
    refine ⟨u', ?_, q⟩
    rw [upd_ne]
    · exact e
    · intro z
      subst z
      obtain ⟨h3, e3⟩ := List.getElem?_eq_some_iff.mp ha
      obtain ⟨h4, e4⟩ := List.getElem?_eq_some_iff.mp h2
      exact hj ((List.getElem_inj D.nd).mp (e3.trans e4.symm))
theorem Den.side (D : Den cl ρ S H) {p : Addr} {u : HO} (hp : H p = none) : Den cl ρ S (upd H p u) := ⟨D.len, D.mn, D.nd, fun k o a h1 h2 => by
  obtain ⟨v, e, r⟩ := D.at' k o a h1 h2
  exact ⟨v, ne_upd hp e, r⟩, D.ge, D.tb.ext fun b o e => ne_upd hp e⟩
theorem Den.same {H' : Hp} (D : Den cl ρ S H) (h : ∀ b o, H b = some o → H' b = some o) : Den cl ρ S H' := ⟨D.len, D.mn, D.nd, fun k o a h1 h2 => let ⟨u, e, r⟩ := D.at' k o a h1 h2; ⟨u, h _ _ e, r⟩, D.ge, D.tb.ext h⟩
/-- a new unknown value -/
theorem Den.sym (D : Den cl ρ S H) {v : V} {w : W} {ws : List W} (hm : w ∈ ws) (r : RelW cl ρ w v) : Den cl (ρ.know v) (pushM S ws) H := by
  refine ⟨D.len, ⟨?_, fun k ws' e => ?_⟩, D.nd, fun k o a h1 h2 => let ⟨u, e, q⟩ := D.at' k o a h1 h2; ⟨u, e, RelOA.mono pre_know q⟩, D.ge.trans pre_know, D.tb⟩
  · show (ρ.sv ++ [v]).length = (ws :: S.mn).length
    rw [List.length_append, D.mn.1]; rfl
  · have e' : rget (ws :: S.mn) k = some ws' := e
    rw [rget_cons] at e'
    by_cases hk : k = S.mn.length
    · rw [if_pos hk] at e'
      cases e'
      refine ⟨v, w, ?_, hm, RelWA.mono pre_know r⟩
      show (ρ.sv ++ [v])[k]? = some v
      rw [hk, ← D.mn.1, List.getElem?_append_right (Nat.le_refl _)]
      simp
    · rw [if_neg hk] at e'
      obtain ⟨v', w', a, b, c⟩ := D.mn.2 k ws' e'
      exact ⟨v', w', get_sv pre_know a, b, RelWA.mono pre_know c⟩
theorem sym_at (D : Den cl ρ S H) {v : V} : (ρ.know v).sv[lenR S.mn]? = some v := by
  show (ρ.sv ++ [v])[lenR S.mn]? = some v
  rw [lenR_eq, ← D.mn.1, List.getElem?_append_right (Nat.le_refl _)]
  simp
/-- a menu made less -/
theorem Den.menu (D : Den cl ρ S H) {k : Nat} {ws : List W} {v : V} {w : W} (e : ρ.sv[k]? = some v) (hm : w ∈ ws) (r : RelW cl ρ w v) : Den cl ρ (setM S k ws) H := by
  have hk : k < S.mn.length := by rw [← D.mn.1]; exact (List.getElem?_eq_some_iff.mp e).1
  refine ⟨D.len, ⟨by show _ = (rset S.mn k ws).length; rw [rset_len]; exact D.mn.1, fun j ws' e' => ?_⟩, D.nd, D.at', D.ge, D.tb⟩
  have e'' : rget (rset S.mn k ws) j = some ws' := e'
  rw [rget_rset hk] at e''
  by_cases hj : k = j
  · subst hj
    rw [if_pos rfl] at e''
    cases e''
    exact ⟨v, w, e, hm, r⟩
  · rw [if_neg hj] at e''
    exact D.mn.2 j ws' e''
/-- another root -/
theorem Den.root (D : Den cl ρ S H) : Den { cl with wd := ρ } ρ S H := ⟨D.len, D.mn, D.nd, D.at', pre_refl, D.tb⟩
theorem Den.unroot {ρ' wd : Wd} (D : Den { cl with wd := wd } ρ' S H) (h : Wd.le cl.wd ρ') : Den cl ρ' S H := ⟨D.len, D.mn, D.nd, D.at', h, D.tb⟩
end
theorem RelWs.get {ρ : Wd} : ∀ {xs : List W} {vs : List V} {i : Nat} {w : W}, RelWs cl ρ xs vs → xs[i]? = some w → ∃ v, vs[i]? = some v ∧ RelW cl ρ w v
  | _, _, _, _, .nil, e => by simp at e
  | _, _, 0, _, .cons r _, e => by simp at e; subst e; exact ⟨_, rfl, r⟩
  | _, _, i + 1, _, .cons _ t, e => by
    obtain ⟨v, h1, h2⟩ := RelWs.get t (i := i) (by simpa using e)
    exact ⟨v, by simpa using h1, h2⟩
theorem RelE.get {ρ : Wd} : ∀ {E : EE} {σ : St} {i : Nat} {w : W}, RelE cl ρ E σ → getR E i = some (some w) → ∃ v, σ[i]? = some (some v) ∧ RelW cl ρ w v
  | _, _, _, _, .nil, e => by rw [getR_eq] at e; simp at e
  | _, _, 0, _, .cons r _, e => by
    rw [getR_eq] at e
    simp at e
    obtain ⟨v, h1, h2⟩ := r _ e
    exact ⟨v, by simp [h1], h2⟩
  | _, _, i + 1, _, .cons _ t, e => by
    obtain ⟨v, h1, h2⟩ := RelE.get t (i := i) e
    exact ⟨v, by simpa using h1, h2⟩
theorem RelE.set0 {ρ : Wd} {w : W} {v : V} (r : RelW cl ρ w v) : ∀ {E : EE} {σ : St} (i : Nat), RelE cl ρ E σ → RelE cl ρ (E.set i (some w)) (σ.set i (some v))
  | _, _, _, .nil => .nil
  | _, _, 0, .cons _ t => .cons (fun w' e => by cases e; exact ⟨v, rfl, r⟩) t
  | _, _, i + 1, .cons q t => .cons q (RelE.set0 r i t)
theorem RelE.set {ρ : Wd} {w : W} {v : V} (r : RelW cl ρ w v) {E : EE} {σ : St} (i : Nat) (q : RelE cl ρ E σ) : RelE cl ρ (setR E i (some w)) (σ.set i (some v)) := by
  rw [setR_eq]
  exact RelE.set0 r i q
theorem RelWs.len {ρ : Wd} {xs : List W} {vs : List V} (r : RelWs cl ρ xs vs) : vs.length = xs.length := (Paired.length r).symm

theorem ff {P : Prop} (h : false = true) : P := by cases h
theorem band {a b : Bool} (h : (a && b) = true) : a = true ∧ b = true := Bool.and_eq_true_iff.mp h
/-! ### what decides a reading -/
abbrev KW := W → SS → Bool
/-- what is wanted of an error: its class by number, its dict -/
abbrev KX := Nat → Option Nat → SS → Bool
abbrev FE := EE → SS → KW → Bool
abbrev FA := EE → SS → (List W → SS → Bool) → Bool
abbrev FT := EE → SS → (Bool → SS → Bool) → Bool
structure KS where
  nx : EE → SS → Bool
  rt : KW
  bk : EE → SS → Bool
  ct : EE → SS → Bool
abbrev FS := KS → EE → SS → Bool
def LinkV {α β : Type} (cl : CL) (ρ : Wd) (R : Wd → α → β → Prop) (k : α → SS → Bool) (Q : β → Hp → Prop) : Prop :=
  ∀ w S' ρ' v H', k w S' = true → Wd.le ρ ρ' → Den cl ρ' S' H' → R ρ' w v → Q v H'
abbrev LinkE (cl : CL) (ρ : Wd) (k : KW) (Q : VK) : Prop := LinkV cl ρ (RelW cl) k Q
abbrev LinkS (cl : CL) (ρ : Wd) (k : EE → SS → Bool) (Q : St → Hp → Prop) : Prop := LinkV cl ρ (RelE cl) k Q
theorem LinkV.mono {α β : Type} {cl : CL} {ρ ρ' : Wd} {R : Wd → α → β → Prop} {k : α → SS → Bool} {Q : β → Hp → Prop} (L : LinkV cl ρ R k Q) (h : Wd.le ρ ρ') : LinkV cl ρ' R k Q :=
  fun w S' ρ2 v H' a b c d => L w S' ρ2 v H' a (h.trans b) c d
structure LinkK (cl : CL) (ρ : Wd) (k : KS) (D : Ends) : Prop where
  nx : LinkS cl ρ k.nx D.nx
  rt : LinkE cl ρ k.rt D.rt
  bk : LinkS cl ρ k.bk D.bk
  ct : LinkS cl ρ k.ct D.ct
theorem LinkK.mono {cl : CL} {ρ ρ' : Wd} {k : KS} {D : Ends} (L : LinkK cl ρ k D) (h : Wd.le ρ ρ') : LinkK cl ρ' k D := ⟨L.nx.mono h, L.rt.mono h, L.bk.mono h, L.ct.mono h⟩
def RelDx (ρ : Wd) : Option Nat → Option Addr → Prop
  | none, d => d = none
  | some k, d => ∃ a, ρ.ad[k]? = some a ∧ d = some a
theorem RelDx.mono {ρ ρ' : Wd} (h : Wd.le ρ ρ') : ∀ {k : Option Nat} {d : Option Addr}, RelDx ρ k d → RelDx ρ' k d
  | none, _, e => e
  | some _, _, ⟨a, e, q⟩ => ⟨a, get_app h e, q⟩
def LinkX (cl : CL) (ρ : Wd) (x : KX) (E : XK) : Prop := ∀ c k S' ρ' d H', x c k S' = true → Wd.le ρ ρ' → Den cl ρ' S' H' → RelDx ρ' k d → E (.ref (cl.adr c)) d H'
theorem LinkX.mono {cl : CL} {ρ ρ' : Wd} {x : KX} {E : XK} (L : LinkX cl ρ x E) (h : Wd.le ρ ρ') : LinkX cl ρ' x E := fun c k S' ρ2 d H' a b e f => L c k S' ρ2 d H' a (h.trans b) e f
def noX : KX := fun _ _ _ => false
theorem linkX_no {ρ : Wd} {E : XK} : LinkX cl ρ noX E := fun _ _ _ _ _ _ h _ _ _ => ff h

def SatE (cl : CL) (f : FE) (t : TE) : Prop := ∀ ρ E S σ H k Q, RelE cl ρ E σ → Den cl ρ S H → f E S k = true → LinkE cl ρ k Q → t σ H Q
def SatA (cl : CL) (f : FA) (t : TA) : Prop := ∀ ρ E S σ H k (Q : List V → Hp → Prop), RelE cl ρ E σ → Den cl ρ S H → f E S k = true → LinkV cl ρ (RelWs cl) k Q → t σ H Q
def SatT (cl : CL) (f : FT) (t : TT) : Prop := ∀ ρ E S σ H k (Q : Bool → Hp → Prop), RelE cl ρ E σ → Den cl ρ S H → f E S k = true → LinkV cl ρ (fun _ a b => a = b) k Q → t σ H Q
def SatS (cl : CL) (f : FS) (t : TS) : Prop := ∀ ρ E S σ H k D, RelE cl ρ E σ → Den cl ρ S H → f k E S = true → LinkK cl ρ k D → t D σ H
/-- an operation on two values -/
def SatO (cl : CL) (g : W → W → SS → KW → Bool) (r : R2) : Prop := ∀ ρ S H x y v u k Q, Den cl ρ S H → RelW cl ρ x v → RelW cl ρ y u → g x y S k = true → LinkE cl ρ k Q → r v u H Q
/-- a call on values -/
def SatC (cl : CL) (g : List W → SS → KW → Bool) (r : List V → Hp → VK → Prop) : Prop := ∀ ρ S H xs vs k Q, Den cl ρ S H → RelWs cl ρ xs vs → g xs S k = true → LinkE cl ρ k Q → r vs H Q
/-- a target -/
abbrev FG := W → EE → SS → (EE → SS → Bool) → Bool
def SatG (cl : CL) (f : FG) (t : TG) : Prop := ∀ ρ E S σ H w v k (Q : St → Hp → Prop), RelE cl ρ E σ → Den cl ρ S H → RelW cl ρ w v → f w E S k = true → LinkS cl ρ k Q → t v σ H Q
end RX

set_option Elab.async false
set_option linter.all false
set_option maxRecDepth 100000
set_option maxHeartbeats 4000000
/-! RX2: expressions, tests, statements, operations, loops, comprehensions, defs and their calls. -/
noncomputable section
namespace RX
open PySem L2
section
variable {cl : CL}
/-! ### expressions -/
def fVar (i : Nat) : FE := fun E S k => match getR E i with
  | some (some w) => k w S
  | _ => false
theorem sat_var {i : Nat} : SatE cl (fVar i) (tVar i) := fun ρ E S σ H k Q re D h L => by
  unfold fVar at h
  split at h
  · rename_i w e
    obtain ⟨v, e', r⟩ := re.get e
    exact ⟨v, e', L w S ρ v H h pre_refl D r⟩
  · exact ff h
def fC (w : W) : FE := fun _ S k => k w S
theorem sat_c {w : W} {v : V} (hr : ∀ ρ, RelW cl ρ w v) : SatE cl (fC w) (tC v) := fun ρ _ S _ H _ _ _ D h L => L w S ρ v H h pre_refl D (hr ρ)
theorem sat_int {i : Int} : SatE cl (fC (.int i)) (tC (.int i)) := sat_c fun _ => rfl
theorem sat_str {x : Str} : SatE cl (fC (.str x)) (tC (.str x)) := sat_c fun _ => rfl
theorem sat_bl {b : Bool} : SatE cl (fC (.bl b)) (tC (.bl b)) := sat_c fun _ => rfl
theorem sat_non : SatE cl (fC .non) (tC .non) := sat_c fun _ => rfl
theorem sat_ty {n : String} : SatE cl (fC (.ty n)) (tC (.ty n)) := sat_c fun _ => rfl
def fNil : FA := fun _ S k => k [] S
def fCons (f : FE) (g : FA) : FA := fun E S k => f E S fun w S1 => g E S1 fun ws S2 => k (w :: ws) S2
theorem sat_nil : SatA cl fNil tNil := fun ρ _ S _ H _ _ _ D h L => L [] S ρ [] H h pre_refl D .nil
theorem sat_cons {f : FE} {g : FA} {te : TE} {ta : TA} (hf : SatE cl f te) (hg : SatA cl g ta) : SatA cl (fCons f g) (tCons te ta) := fun ρ E S σ H k Q re D h L =>
  hf ρ E S σ H _ _ re D h fun w S1 ρ1 v H1 h1 p1 D1 r1 => hg ρ1 E S1 σ H1 _ _ (re.mono p1) D1 h1 fun ws S2 ρ2 vs H2 h2 p2 D2 r2 =>
    L (w :: ws) S2 ρ2 (v :: vs) H2 h2 (p1.trans p2) D2 (.cons (r1.mono p2) r2)
def fOp (g : W → W → SS → KW → Bool) (fa fb : FE) : FE := fun E S k => fa E S fun x S1 => fb E S1 fun y S2 => g x y S2 k
theorem sat_op {g : W → W → SS → KW → Bool} {r : R2} {fa fb : FE} {ta tb : TE} (hg : SatO cl g r) (ha : SatE cl fa ta) (hb : SatE cl fb tb) : SatE cl (fOp g fa fb) (tOp r ta tb) := fun ρ E S σ H k Q re D h L =>
  ha ρ E S σ H _ _ re D h fun x S1 ρ1 v H1 h1 p1 D1 r1 => hb ρ1 E S1 σ H1 _ _ (re.mono p1) D1 h1 fun y S2 ρ2 u H2 h2 p2 D2 r2 =>
    hg ρ2 S2 H2 x y v u k Q D2 (r1.mono p2) r2 h2 (L.mono (p1.trans p2))
def fCB (g : List W → SS → KW → Bool) (fa : FA) : FE := fun E S k => fa E S fun xs S1 => g xs S1 k
theorem sat_cb {g : List W → SS → KW → Bool} {r : List V → Hp → VK → Prop} {fa : FA} {ta : TA} (hg : SatC cl g r) (ha : SatA cl fa ta) : SatE cl (fCB g fa) (tCB r ta) := fun ρ E S σ H k Q re D h L =>
  ha ρ E S σ H _ _ re D h fun xs S1 ρ1 vs H1 h1 p1 D1 r1 => hg ρ1 S1 H1 xs vs k Q D1 r1 h1 (L.mono p1)
def fLst (fa : FA) : FE := fun E S k => fa E S fun xs S1 => Nat.ble (lenR xs) 16777216 && k (.ref (lenS S1)) (pushS S1 (.lst xs))
theorem sat_lst {fa : FA} {ta : TA} (ha : SatA cl fa ta) : SatE cl (fLst fa) (tLst ta) := fun ρ E S σ H k Q re D h L =>
  ha ρ E S σ H _ _ re D h fun xs S1 ρ1 vs H1 h1 p1 D1 r1 => ⟨by rw [r1.len, sizeLine_eq, ← lenR_eq]; exact Nat.le_of_ble_eq_true (band h1).1, fun p hp =>
    L _ _ _ _ _ (band h1).2 (p1.trans pre_app) (D1.new hp ⟨vs, rfl, r1.mono pre_app⟩) ⟨p, new_at D1, rfl⟩⟩
def fTup (fa : FA) : FE := fun E S k => fa E S fun xs S1 => Nat.ble (lenR xs) 16777216 && k (.ref (lenS S1)) (pushS S1 (.tup xs))
theorem sat_tup {fa : FA} {ta : TA} (ha : SatA cl fa ta) : SatE cl (fTup fa) (tTup ta) := fun ρ E S σ H k Q re D h L =>
  ha ρ E S σ H _ _ re D h fun xs S1 ρ1 vs H1 h1 p1 D1 r1 => ⟨by rw [r1.len, sizeLine_eq, ← lenR_eq]; exact Nat.le_of_ble_eq_true (band h1).1, fun p hp =>
    L _ _ _ _ _ (band h1).2 (p1.trans pre_app) (D1.new hp ⟨vs, rfl, r1.mono pre_app⟩) ⟨p, new_at D1, rfl⟩⟩
def fDNew : FE := fun _ S k => k (.ref (lenS S)) (pushS S (.dK []))
theorem sat_dnew : SatE cl fDNew tDNewK := fun ρ _ S _ H k Q _ D h L => show ∀ p, H p = none → Q (.ref p) (upd H p (.dK [])) from fun p hp =>
    L _ _ _ _ _ h pre_app (D.new hp ⟨[], rfl, .nil⟩) ⟨p, new_at D, rfl⟩
def fIf (c : FT) (fa fb : FE) : FE := fun E S k => c E S fun b S1 => match b with
  | true => fa E S1 k
  | false => fb E S1 k
theorem sat_if {c : FT} {fa fb : FE} {tc : TT} {ta tb : TE} (hc : SatT cl c tc) (ha : SatE cl fa ta) (hb : SatE cl fb tb) : SatE cl (fIf c fa fb) (tIf tc ta tb) := fun ρ E S σ H k Q re D h L =>
  hc ρ E S σ H _ _ re D h fun b S1 ρ1 b' H1 h1 p1 D1 r1 => by
    subst r1
    cases b with
    | true => rw [if_pos rfl]; exact ha ρ1 E S1 σ H1 _ _ (re.mono p1) D1 h1 (L.mono p1)
    | false => rw [if_neg (by decide)]; exact hb ρ1 E S1 σ H1 _ _ (re.mono p1) D1 h1 (L.mono p1)
/-! ### tests -/
def fB (f : FE) : FT := fun E S k => f E S fun w S1 => match w with
  | .bl b => k b S1
  | _ => false
theorem sat_fB {f : FE} {t : TE} {Q : Bool → Hp → Prop} {ρ E S σ H} {k : Bool → SS → Bool} (hf : SatE cl f t) (re : RelE cl ρ E σ) (D : Den cl ρ S H) (h : fB f E S k = true) (L : LinkV cl ρ (fun _ a b => a = b) k Q) : t σ H fun x H1 => ∃ c, x = .bl c ∧ Q c H1 :=
  hf ρ E S σ H _ _ re D h fun w S1 ρ1 v H1 h1 p1 D1 r1 => by
    cases w with
    | bl b => exact ⟨b, r1, L b S1 ρ1 b H1 h1 p1 D1 rfl⟩
    | _ => exact ff h1
theorem sat_test {f : FE} {t : TE} (hf : SatE cl f t) : SatT cl (fB f) (tTest t) := fun ρ E S σ H k Q re D h L => sat_fB hf re D h L
theorem sat_b {f : FE} {t : TE} (hf : SatE cl f t) : SatT cl (fB f) (tB t) := fun ρ E S σ H k Q re D h L => sat_fB hf re D h L
def fAnd (f g : FT) : FT := fun E S k => f E S fun b S1 => match b with
  | true => g E S1 k
  | false => k false S1
def fOr (f g : FT) : FT := fun E S k => f E S fun b S1 => match b with
  | true => k true S1
  | false => g E S1 k
def fNot (f : FT) : FT := fun E S k => f E S fun b S1 => k (!b) S1
theorem sat_and {f g : FT} {t u : TT} (hf : SatT cl f t) (hg : SatT cl g u) : SatT cl (fAnd f g) (tAnd t u) := fun ρ E S σ H k Q re D h L =>
  hf ρ E S σ H _ _ re D h fun b S1 ρ1 b' H1 h1 p1 D1 r1 => by
    subst r1
    cases b with
    | true => rw [if_pos rfl]; exact hg ρ1 E S1 σ H1 _ _ (re.mono p1) D1 h1 (L.mono p1)
    | false => rw [if_neg (by decide)]; exact L _ _ _ _ _ h1 p1 D1 rfl
theorem sat_or {f g : FT} {t u : TT} (hf : SatT cl f t) (hg : SatT cl g u) : SatT cl (fOr f g) (tOr t u) := fun ρ E S σ H k Q re D h L =>
  hf ρ E S σ H _ _ re D h fun b S1 ρ1 b' H1 h1 p1 D1 r1 => by
    subst r1
    cases b with
    | true => rw [if_pos rfl]; exact L _ _ _ _ _ h1 p1 D1 rfl
    | false => rw [if_neg (by decide)]; exact hg ρ1 E S1 σ H1 _ _ (re.mono p1) D1 h1 (L.mono p1)
theorem sat_not {f : FT} {t : TT} (hf : SatT cl f t) : SatT cl (fNot f) (tNot t) := fun ρ E S σ H k Q re D h L =>
  hf ρ E S σ H _ _ re D h fun b S1 ρ1 b' H1 h1 p1 D1 r1 => by
    subst r1
    exact L _ _ _ _ _ h1 p1 D1 rfl
def fNotV (f : FE) : FE := fun E S k => fB f E S fun b S1 => k (.bl (!b)) S1
theorem sat_notV {f : FE} {t : TE} (hf : SatE cl f t) : SatE cl (fNotV f) (tNotV t) := fun ρ E S σ H k Q re D h L =>
  sat_fB hf re D h fun b S1 ρ1 b' H1 h1 p1 D1 r1 => by subst r1; exact L _ _ _ _ _ h1 p1 D1 rfl
def fAndV (f g : FE) : FE := fun E S k => fB f E S fun b S1 => match b with
  | true => g E S1 k
  | false => k (.bl false) S1
theorem sat_andV {f g : FE} {t u : TE} (hf : SatE cl f t) (hg : SatE cl g u) : SatE cl (fAndV f g) (tAndV t u) := fun ρ E S σ H k Q re D h L => by
  unfold tAndV
  refine hf ρ E S σ H _ _ re D h fun w S1 ρ1 v H1 h1 p1 D1 r1 => ?_
  cases w with
  | bl b =>
    refine ⟨b, r1, ?_⟩
    cases b with
    | true => rw [if_pos rfl]; exact hg ρ1 E S1 σ H1 _ _ (re.mono p1) D1 h1 (L.mono p1)
    | false => rw [if_neg (by decide)]; exact L _ _ _ _ _ h1 p1 D1 rfl
  | _ => exact ff h1
def fOrV (f g : FE) : FE := fun E S k => fB f E S fun b S1 => match b with
  | true => k (.bl true) S1
  | false => g E S1 k
theorem sat_orV {f g : FE} {t u : TE} (hf : SatE cl f t) (hg : SatE cl g u) : SatE cl (fOrV f g) (tOrV t u) := fun ρ E S σ H k Q re D h L => by
  unfold tOrV
  refine hf ρ E S σ H _ _ re D h fun w S1 ρ1 v H1 h1 p1 D1 r1 => ?_
  cases w with
  | bl b =>
    refine ⟨b, r1, ?_⟩
    cases b with
    | true => rw [if_pos rfl]; exact L _ _ _ _ _ h1 p1 D1 rfl
    | false => rw [if_neg (by decide)]; exact hg ρ1 E S1 σ H1 _ _ (re.mono p1) D1 h1 (L.mono p1)
  | _ => exact ff h1
/-! ### statements -/
def fNext : FS := fun k E S => k.nx E S
def fSeq (f g : FS) : FS := fun k E S => f { k with nx := fun E' S' => g k E' S' } E S
def fRet (f : FE) : FS := fun k E S => f E S k.rt
def fRetN : FS := fun k _ S => k.rt .non S
def fIfS (c : FT) (f g : FS) : FS := fun k E S => c E S fun b S1 => match b with
  | true => f k E S1
  | false => g k E S1
def fAsg (f : FE) (g : FG) : FS := fun k E S => f E S fun w S1 => g w E S1 k.nx
def fExpr (f : FE) : FS := fun k E S => f E S fun _ S1 => k.nx E S1
def gfName (i : Nat) : FG := fun w E S k => k (setR E i (some w)) S
theorem sat_next : SatS cl fNext tNext := fun ρ E S σ H k D re Dn h L => L.nx E S ρ σ H h pre_refl Dn re
theorem sat_seq {f g : FS} {t u : TS} (hf : SatS cl f t) (hg : SatS cl g u) : SatS cl (fSeq f g) (tSeq t u) := fun ρ E S σ H k D re Dn h L =>
  hf ρ E S σ H _ _ re Dn h ⟨fun E' S' ρ' σ' H' h' p' D' r' => hg ρ' E' S' σ' H' k D r' D' h' (L.mono p'), L.rt, L.bk, L.ct⟩
theorem sat_ret {f : FE} {t : TE} (hf : SatE cl f t) : SatS cl (fRet f) (tRet t) := fun ρ E S σ H k D re Dn h L => hf ρ E S σ H _ _ re Dn h L.rt
theorem sat_retN : SatS cl fRetN tRetN := fun ρ E S σ H k D re Dn h L => L.rt _ _ _ _ _ h pre_refl Dn rfl
theorem sat_ifS {c : FT} {f g : FS} {tc : TT} {t u : TS} (hc : SatT cl c tc) (hf : SatS cl f t) (hg : SatS cl g u) : SatS cl (fIfS c f g) (tIfS tc t u) := fun ρ E S σ H k D re Dn h L =>
  hc ρ E S σ H _ _ re Dn h fun b S1 ρ1 b' H1 h1 p1 D1 r1 => by
    subst r1
    cases b with
    | true => rw [if_pos rfl]; exact hf ρ1 E S1 σ H1 _ _ (re.mono p1) D1 h1 (L.mono p1)
    | false => rw [if_neg (by decide)]; exact hg ρ1 E S1 σ H1 _ _ (re.mono p1) D1 h1 (L.mono p1)
theorem sat_gname {i : Nat} : SatG cl (gfName i) (gName i) := fun ρ E S σ H w v k Q re D r h L => L _ _ _ _ _ h pre_refl D (re.set r i)
theorem sat_asg {f : FE} {g : FG} {te : TE} {tg : TG} (hf : SatE cl f te) (hg : SatG cl g tg) : SatS cl (fAsg f g) (tAsg te tg) := fun ρ E S σ H k D re Dn h L =>
  hf ρ E S σ H _ _ re Dn h fun w S1 ρ1 v H1 h1 p1 D1 r1 => hg ρ1 E S1 σ H1 w v _ _ (re.mono p1) D1 r1 h1 (L.nx.mono p1)
/-! ### operations on ints -/
def gI0 (g : Int → Int → W) : W → W → SS → KW → Bool := fun x y S k => match x, y with
  | .int i, .int j => k (g i j) S
  | _, _ => false
theorem sat_I0 {g : Int → Int → W} {g' : Int → Int → V} (hg : ∀ ρ i j, RelW cl ρ (g i j) (g' i j)) : SatO cl (gI0 g) (rI0 g') := fun ρ S H x y v u k Q D rx ry h L => by
  cases x with
  | int i =>
    cases y with
    | int j => exact ⟨i, j, rx, ry, L _ _ _ _ _ h pre_refl D (hg _ _ _)⟩
    | _ => exact ff h
  | _ => cases y <;> exact ff h
def gI (C : Int → Int → Bool) (g : Int → Int → W) : W → W → SS → KW → Bool := fun x y S k => match x, y with
  | .int i, .int j => C i j && k (g i j) S
  | _, _ => false
theorem sat_I {C : Int → Int → Bool} {C' : Int → Int → Prop} {g : Int → Int → W} {g' : Int → Int → V} (hc : ∀ i j, C i j = true → C' i j) (hg : ∀ ρ i j, RelW cl ρ (g i j) (g' i j)) : SatO cl (gI C g) (rI C' g') := fun ρ S H x y v u k Q D rx ry h L => by
  cases x with
  | int i =>
    cases y with
    | int j => exact ⟨i, j, rx, ry, hc _ _ (band h).1, L _ _ _ _ _ (band h).2 pre_refl D (hg _ _ _)⟩
    | _ => exact ff h
  | _ => cases y <;> exact ff h
/-! ### == of scalars -/
def nlEq : List Nat → List Nat → Bool
  | [], [] => true
  | a :: l, b :: m => Nat.beq a b && nlEq l m
  | _, _ => false
theorem nlEq_iff : ∀ {l m : List Nat}, nlEq l m = true ↔ l = m
  | [], [] => by simp [nlEq]
  | a :: l, b :: m => by
    show (Nat.beq a b && nlEq l m) = true ↔ _
    rw [Bool.and_eq_true, nlEq_iff (l := l) (m := m)]
    constructor
    · rintro ⟨h1, h2⟩
      rw [Nat.eq_of_beq_eq_true h1, h2]
    · rintro h
      cases h
      exact ⟨Nat.beq_refl a, rfl⟩
  | [], _ :: _ => by simp [nlEq]
  | _ :: _, [] => by simp [nlEq]
def strEq (a b : Str) : Bool := nlEq a.cps.toList b.cps.toList
theorem strEq_iff {a b : Str} : strEq a b = true ↔ a = b := by
  unfold strEq
  rw [nlEq_iff]
  constructor
  · intro h
    cases a; cases b
    exact congrArg Str.mk (Array.ext' h)
  · intro h; rw [h]
theorem strEq_dec {a b : Str} : decide (a = b) = strEq a b := by
  by_cases h : a = b
  · rw [decide_eq_true h, strEq_iff.mpr h]
  · rw [decide_eq_false h]
    cases q : strEq a b with
    | false => rfl
    | true => exact absurd (strEq_iff.mp q) h
abbrev intEq (a b : Int) : Bool := PySem.W.Z.eqB a b
def bEq : Bool → Bool → Bool
  | true, true => true
  | false, false => true
  | _, _ => false
theorem intEq_dec {a b : Int} : decide (a = b) = intEq a b := by
  have key : intEq a b = true ↔ a = b := PySem.W.Z.eqB_iff a b
  by_cases h : a = b
  · rw [decide_eq_true h, key.mpr h]
  · rw [decide_eq_false h]
    cases q : intEq a b with
    | false => rfl
    | true => exact absurd (key.mp q) h
def eqS : W → W → Option Bool
  | .int i, .int j => some (intEq i j)
  | .str a, .str b => some (strEq a b)
  | .bl a, .bl b => some (bEq a b)
  | .non, .non => some true
  | .non, .int _ | .int _, .non | .non, .bl _ | .bl _, .non | .non, .str _ | .str _, .non | .int _, .str _ | .str _, .int _ | .bl _, .str _ | .str _, .bl _ => some false
  | _, _ => none
theorem eqS_ok {ρ : Wd} {x y : W} {v u : V} {b : Bool} (rx : RelW cl ρ x v) (ry : RelW cl ρ y u) (h : eqS x y = some b) : scal v u = true ∧ decide (v = u) = b := by
  cases x <;> cases y <;> simp only [eqS, Option.some.injEq, reduceCtorEq] at h <;> (try exact ff h) <;> simp only [RelW, RelWA] at rx ry <;> subst rx ry <;> refine ⟨rfl, ?_⟩ <;>
    first
    | (subst h; simp; done)
    | (rw [← h]; rw [← intEq_dec]; simp; done)
    | (rw [← h]; rw [← strEq_dec]; simp; done)
    | (rw [← h]; rename_i a b'; cases a <;> cases b' <;> rfl)
def gEq (neg : Bool) : W → W → SS → KW → Bool := fun x y S k => match eqS x y with
  | some b => k (.bl (xor neg b)) S
  | none => false
theorem sat_eq : SatO cl (gEq false) rEq := fun ρ S H x y v u k Q D rx ry h L => by
  unfold gEq at h
  split at h
  · rename_i b e
    obtain ⟨h1, h2⟩ := eqS_ok rx ry e
    refine ⟨h1, L _ _ _ _ _ h pre_refl D ?_⟩
    rw [h2]
    cases b <;> rfl
  · exact ff h
theorem sat_ne : SatO cl (gEq true) rNe := fun ρ S H x y v u k Q D rx ry h L => by
  unfold gEq at h
  split at h
  · rename_i b e
    obtain ⟨h1, h2⟩ := eqS_ok rx ry e
    refine ⟨h1, L _ _ _ _ _ h pre_refl D ?_⟩
    rw [h2]
    cases b <;> rfl
  · exact ff h
/-! ### flat items: in, not in -/
def flatW : W → Bool
  | .non | .bl _ | .int _ | .str _ => true
  | _ => false
def eqF : W → W → Bool
  | .non, .non => true
  | .bl a, .bl b => bEq a b
  | .bl a, .int b => intEq (if a then 1 else 0) b
  | .int a, .bl b => intEq a (if b then 1 else 0)
  | .int a, .int b => intEq a b
  | .str a, .str b => strEq a b
  | _, _ => false
theorem flat_ok {ρ : Wd} {x : W} {v : V} (r : RelW cl ρ x v) (h : flatW x = true) : flatV v = true := by
  cases x <;> simp only [flatW, reduceCtorEq] at h <;> simp only [RelW, RelWA] at r <;> subst r <;> rfl
theorem beq_int {a b : Int} : (a == b) = intEq a b := by
  rw [← intEq_dec]
  by_cases h : a = b
  · subst h; simp
  · rw [decide_eq_false h]; exact beq_eq_false_iff_ne.mpr h
theorem beq_str {a b : Str} : (a == b) = strEq a b := by
  rw [← strEq_dec]
  by_cases h : a = b
  · subst h; simp
  · rw [decide_eq_false h]; exact beq_eq_false_iff_ne.mpr h
theorem eqF_ok {ρ : Wd} {x y : W} {v u : V} (rx : RelW cl ρ x v) (ry : RelW cl ρ y u) (fx : flatW x = true) (fy : flatW y = true) : eqV v u = eqF x y := by
  cases x <;> cases y <;> simp only [flatW, reduceCtorEq] at fx fy <;> simp only [RelW, RelWA] at rx ry <;> subst rx ry <;>
    first
    | rfl
    | exact beq_int
    | exact beq_str
    | (rename_i a b; cases a <;> cases b <;> rfl)
def inF (x : W) : List W → Bool
  | [] => false
  | y :: l => eqF y x || inF x l
theorem inF_ok {ρ : Wd} {x : W} {v : V} (rx : RelW cl ρ x v) (fx : flatW x = true) : ∀ {xs : List W} {vs : List V}, RelWs cl ρ xs vs → xs.all flatW = true → vs.all flatV = true ∧ inV v vs = inF x xs
  | [], [], .nil, _ => ⟨rfl, rfl⟩
  | y :: ys, u :: us, .cons r t, h => by
    simp only [List.all_cons, Bool.and_eq_true] at h
    obtain ⟨h1, h2⟩ := inF_ok rx fx t h.2
    refine ⟨by simp only [List.all_cons, Bool.and_eq_true]; exact ⟨flat_ok r h.1, h1⟩, ?_⟩
    show (eqV u v || inV v us) = (eqF y x || inF x ys)
    rw [h2, eqF_ok r rx h.1 fx]
def seqAt (S : SS) (k : Nat) : Option (List W) := match getS S k with
  | some (.lst xs) => some xs
  | some (.tup xs) => some xs
  | _ => none
theorem seqAt_ok {K : PySem.W.Frag} {ρ : Wd} {S : SS} {H : Hp} (D : Den cl ρ S H) {k : Nat} {xs : List W} (h : seqAt S k = some xs) : ∃ a vs, ρ.ad[k]? = some a ∧ RelWs cl ρ xs vs ∧ (SqL K H a vs ∨ SqT K H a vs) := by
  unfold seqAt at h
  split at h
  · rename_i ys e
    cases h
    obtain ⟨a, u, h1, h2, vs, h3, h4⟩ := D.get e
    subst h3
    exact ⟨a, vs, h1, h4, .inl (.inl (.inl h2))⟩
  · rename_i ys e
    cases h
    obtain ⟨a, u, h1, h2, vs, h3, h4⟩ := D.get e
    subst h3
    exact ⟨a, vs, h1, h4, .inr (.inl (.inl h2))⟩
  · cases h
def gIn (neg : Bool) : W → W → SS → KW → Bool := fun x y S k => match y with
  | .ref p => match seqAt S p with
    | some xs => (flatW x && xs.all flatW) && k (.bl (xor neg (inF x xs))) S
    | none => false
  | _ => false
theorem sat_in {K : PySem.W.Frag} {neg : Bool} : SatO cl (gIn neg) (rIn K neg) := fun ρ S H x y v u k Q D rx ry h L => by
  cases y with
  | ref p =>
    simp only [gIn] at h
    split at h
    · rename_i xs e
      obtain ⟨hf, h⟩ := band h
      rw [Bool.and_eq_true] at hf
      obtain ⟨a, vs, h1, h2, h3⟩ := seqAt_ok (K := K) D e
      obtain ⟨a', h1', rfl⟩ := ry
      rw [h1] at h1'; cases h1'
      obtain ⟨h4, h5⟩ := inF_ok rx hf.1 h2 hf.2
      refine ⟨a, vs, rfl, h3, flat_ok rx hf.1, h4, L _ _ _ _ _ h pre_refl D ?_⟩
      rw [h5]
      show V.bl _ = V.bl _
      cases neg <;> cases inF x xs <;> rfl
    · exact ff h
  | _ => exact ff h
/-! ### unknown values: parted by a question, or gone through -/
def allO (p : W → Option Bool) : List W → Bool
  | [] => true
  | w :: l => match p w with
    | some _ => allO p l
    | none => false
def filO (p : W → Option Bool) (b : Bool) : List W → List W
  | [] => []
  | w :: l => match p w with
    | some c => match bEq b c with
      | true => w :: filO p b l
      | false => filO p b l
    | none => filO p b l
theorem allO_get {p : W → Option Bool} : ∀ {l : List W} {w : W}, allO p l = true → w ∈ l → ∃ b, p w = some b
  | a :: l, w, h, m => by
    unfold allO at h
    split at h
    · rename_i b e
      rcases List.mem_cons.mp m with rfl | m
      · exact ⟨b, e⟩
      · exact allO_get h m
    · exact ff h
theorem filO_mem {p : W → Option Bool} {b : Bool} : ∀ {l : List W} {w : W}, w ∈ l → p w = some b → w ∈ filO p b l
  | a :: l, w, m, e => by
    unfold filO
    rcases List.mem_cons.mp m with rfl | m
    · rw [e]
      cases b <;> exact List.mem_cons_self
    · have ih := filO_mem m e
      split
      · split
        · exact List.mem_cons_of_mem _ ih
        · exact ih
      · exact ih
def splitV (p : W → Option Bool) (x : W) (S : SS) (k : Bool → SS → Bool) : Bool := match x with
  | .var j => match getM S j with
    | some ws => allO p ws && ((match filO p true ws with
        | [] => true
        | a :: t => k true (setM S j (a :: t))) && (match filO p false ws with
        | [] => true
        | a :: t => k false (setM S j (a :: t))))
    | none => false
  | x => match p x with
    | some b => k b S
    | none => false
theorem splitV_ok {p : W → Option Bool} {x : W} {S : SS} {k : Bool → SS → Bool} {ρ : Wd} {H : Hp} {v : V} (D : Den cl ρ S H) (r : RelW cl ρ x v) (h : splitV p x S k = true) : ∃ b S', k b S' = true ∧ Den cl ρ S' H ∧ ∃ w, p w = some b ∧ RelW cl ρ w v := by
  have dflt : (match p x with | some b => k b S | none => false) = true → ∃ b S', k b S' = true ∧ Den cl ρ S' H ∧ ∃ w, p w = some b ∧ RelW cl ρ w v := fun h => by
    split at h
    · rename_i b e
      exact ⟨b, S, h, D, x, e, r⟩
    · exact ff h
  cases x with
  | var j =>
    unfold splitV at h
    dsimp only at h
    split at h
    · rename_i ws e
      obtain ⟨h1, h2⟩ := band h
      obtain ⟨h3, h4⟩ := band h2
      obtain ⟨v', w, a, m, rw'⟩ := D.mn.2 j ws e
      have r' : ρ.sv[j]? = some v := r
      rw [r'] at a
      cases a
      obtain ⟨b, eb⟩ := allO_get h1 m
      have mf := filO_mem m eb
      cases b with
      | true =>
        split at h3
        · rename_i e0; rw [e0] at mf; cases mf
        · rename_i a t e0
          rw [e0] at mf
          exact ⟨true, _, h3, D.menu r' mf rw', w, eb, rw'⟩
      | false =>
        split at h4
        · rename_i e0; rw [e0] at mf; cases mf
        · rename_i a t e0
          rw [e0] at mf
          exact ⟨false, _, h4, D.menu r' mf rw', w, eb, rw'⟩
    · exact ff h
  | _ => exact dflt h
def allB (f : W → Bool) : List W → Bool
  | [] => true
  | w :: l => f w && allB f l
theorem allB_mem {f : W → Bool} : ∀ {xs : List W} {w : W}, allB f xs = true → w ∈ xs → f w = true
  | a :: l, w, h, m => by
    rcases List.mem_cons.mp m with rfl | m
    · exact (band h).1
    · exact allB_mem (band h).2 m
def resV (x : W) (S : SS) (k : W → SS → Bool) : Bool := match x with
  | .var j => match getM S j with
    | some ws => allB (fun w => k w (setM S j [w])) ws
    | none => false
  | x => k x S
theorem resV_ok {x : W} {S : SS} {k : W → SS → Bool} {ρ : Wd} {H : Hp} {v : V} (D : Den cl ρ S H) (r : RelW cl ρ x v) (h : resV x S k = true) : ∃ w S', k w S' = true ∧ Den cl ρ S' H ∧ RelW cl ρ w v := by
  cases x with
  | var j =>
    unfold resV at h
    dsimp only at h
    split at h
    · rename_i ws e
      obtain ⟨v', w, a, m, rw'⟩ := D.mn.2 j ws e
      have r' : ρ.sv[j]? = some v := r
      rw [r'] at a
      cases a
      exact ⟨w, _, allB_mem h m, D.menu r' (List.mem_singleton.mpr rfl) rw', rw'⟩
    · exact ff h
  | _ => exact ⟨_, S, h, D, r⟩
/-- the left one, the right one gone through -/
def gResL (g : W → W → SS → KW → Bool) : W → W → SS → KW → Bool := fun x y S k => resV x S fun x' S' => g x' y S' k
def gResR (g : W → W → SS → KW → Bool) : W → W → SS → KW → Bool := fun x y S k => resV y S fun y' S' => g x y' S' k
theorem sat_resL {g : W → W → SS → KW → Bool} {r : R2} (hg : SatO cl g r) : SatO cl (gResL g) r := fun ρ S H x y v u k Q D rx ry h L =>
  let ⟨w, S', h', D', r'⟩ := resV_ok D rx h
  hg ρ S' H w y v u k Q D' r' ry h' L
theorem sat_resR {g : W → W → SS → KW → Bool} {r : R2} (hg : SatO cl g r) : SatO cl (gResR g) r := fun ρ S H x y v u k Q D rx ry h L =>
  let ⟨w, S', h', D', r'⟩ := resV_ok D ry h
  hg ρ S' H x w v u k Q D' rx r' h' L
/-! ### is None -/
def isN : W → Option Bool
  | .non => some true
  | .var _ => none
  | _ => some false
theorem isN_ok {ρ : Wd} {x : W} {v : V} {b : Bool} (r : RelW cl ρ x v) (h : isN x = some b) : decide (v = .non) = b := by
  cases x <;> simp only [RelW, RelWA] at r <;> simp only [isN, Option.some.injEq, reduceCtorEq] at h
  case ref k =>
    obtain ⟨a, _, rfl⟩ := r
    rw [← h]
    exact decide_eq_false (fun z => nomatch z)
  case jn k =>
    obtain ⟨_, y, _, _, rfl⟩ := r
    rw [← h]
    exact decide_eq_false (fun z => nomatch z)
  all_goals
    subst r
    rw [← h]
    first
      | exact decide_eq_true rfl
      | exact decide_eq_false (fun z => nomatch z)
def gIsN (neg : Bool) : W → W → SS → KW → Bool := fun x y S k => match y with
  | .non => splitV isN x S fun b S' => k (.bl (xor neg b)) S'
  | _ => false
theorem sat_isN : SatO cl (gIsN false) (fun x y H Q => y = .non ∧ Q (.bl (decide (x = .non))) H) := fun ρ S H x y v u k Q D rx ry h L => by
  cases y with
  | non =>
    obtain ⟨b, S', h', D', w, e, r⟩ := splitV_ok (k := fun b S' => k (.bl (xor false b)) S') D rx h
    exact ⟨ry, L _ _ _ _ _ h' pre_refl D' (by rw [isN_ok r e]; show V.bl _ = V.bl _; cases b <;> rfl)⟩
  | _ => exact ff h
theorem sat_notN : SatO cl (gIsN true) (fun x y H Q => y = .non ∧ Q (.bl (!decide (x = .non))) H) := fun ρ S H x y v u k Q D rx ry h L => by
  cases y with
  | non =>
    obtain ⟨b, S', h', D', w, e, r⟩ := splitV_ok (k := fun b S' => k (.bl (xor true b)) S') D rx h
    exact ⟨ry, L _ _ _ _ _ h' pre_refl D' (by rw [isN_ok r e]; show V.bl _ = V.bl _; cases b <;> rfl)⟩
  | _ => exact ff h
/-! ### lists -/
def gCat : W → W → SS → KW → Bool := fun x y S k => match x, y with
  | .ref p, .ref q => match getS S p, getS S q with
    | some (.lst xs), some (.lst ys) => Nat.ble (lenR xs + lenR ys) 16777216 && k (.ref (lenS S)) (pushS S (.lst (appR xs ys)))
    | _, _ => false
  | _, _ => false
theorem Paired.app {α β : Type} {R : α → β → Prop} : ∀ {l l' : List α} {m m' : List β}, Paired R l m → Paired R l' m' → Paired R (l ++ l') (m ++ m')
  | _, _, _, _, .nil, h => h
  | _, _, _, _, .cons r t, h => .cons r (Paired.app t h)
theorem sat_cat : SatO cl gCat rCat := fun ρ S H x y v u k Q D rx ry h L => by
  cases x with
  | ref p =>
    cases y with
    | ref q =>
      simp only [gCat] at h
      split at h
      · rename_i xs ys e1 e2
        obtain ⟨a, o1, h1, h2, vs, rfl, r1⟩ := D.get e1
        obtain ⟨b, o2, h3, h4, us, rfl, r2⟩ := D.get e2
        obtain ⟨a', z1, rfl⟩ := rx
        obtain ⟨b', z2, rfl⟩ := ry
        rw [h1] at z1; cases z1
        rw [h3] at z2; cases z2
        refine ⟨a, b, vs, us, rfl, rfl, h2, h4, ?_, fun p hp => L _ _ _ _ _ (band h).2 pre_app (D.new hp ⟨_, rfl, by rw [appR_eq]; exact Paired.app (RelWs.mono pre_app r1) (RelWs.mono pre_app r2)⟩) ⟨p, new_at D, rfl⟩⟩
        rw [RelWs.len r1, RelWs.len r2, sizeLine_eq, ← lenR_eq, ← lenR_eq]
        exact Nat.le_of_ble_eq_true (band h).1
      · exact ff h
    | _ => exact ff h
  | _ => cases y <;> exact ff h
def ixW (n : Nat) : Int → Option Nat
  | .ofNat i => match Nat.blt i n with
    | true => some i
    | false => none
  | .negSucc i => match Nat.ble (i + 1) n with
    | true => some (n - (i + 1))
    | false => none
theorem ixW_eq (n : Nat) (i : Int) : ixN n i = ixW n i := by
  unfold ixN ixW
  cases i with
  | ofNat m =>
    have h0 : (0 : Int) ≤ Int.ofNat m := Int.natCast_nonneg m
    rw [if_pos h0]
    by_cases h : m < n
    · have e : Nat.blt m n = true := PySem.W.Z.blt_iff.mpr h
      rw [if_pos (by show (m : Int) < n; omega)]
      simp [e]
    · have e : Nat.blt m n = false := by
        cases q : Nat.blt m n with
        | false => rfl
        | true => exact absurd (PySem.W.Z.blt_iff.mp q) h
      rw [if_neg (by show ¬ (m : Int) < n; omega)]
      simp [e]
  | negSucc m =>
    rw [if_neg (by have := Int.negSucc_lt_zero m; omega)]
    by_cases h : m + 1 ≤ n
    · have e : Nat.ble (m + 1) n = true := PySem.W.Z.ble_iff.mpr h
      rw [if_pos (by have : Int.negSucc m = -((m : Int) + 1) := by omega
                     omega)]
      simp only [e]
      congr 1
      have : Int.negSucc m = -((m : Int) + 1) := by omega
      omega
    · have e : Nat.ble (m + 1) n = false := by
        cases q : Nat.ble (m + 1) n with
        | false => rfl
        | true => exact absurd (PySem.W.Z.ble_iff.mp q) h
      rw [if_neg (by have : Int.negSucc m = -((m : Int) + 1) := by omega
                     omega)]
      simp [e]
def getI {α : Type} (xs : List α) (i : Int) : Option α := match ixW (lenR xs) i with
  | some j => getR xs j
  | none => none
def gIx : W → W → SS → KW → Bool := fun x y S k => match x, y with
  | .ref p, .int i => match seqAt S p with
    | some xs => match getI xs i with
      | some w => k w S
      | none => false
    | none => false
  | _, _ => false
theorem getI_ok {ρ : Wd} {xs : List W} {vs : List V} {i : Int} {w : W} (r : RelWs cl ρ xs vs) (h : getI xs i = some w) : ∃ v, atI vs i = some v ∧ RelW cl ρ w v := by
  unfold getI at h
  split at h
  · rename_i j e
    obtain ⟨v, h1, h2⟩ := RelWs.get r ((getR_eq _ _).symm.trans h)
    refine ⟨v, ?_, h2⟩
    unfold atI
    rw [ixW_eq, RelWs.len r, ← lenR_eq, e]
    exact h1
  · cases h
theorem sat_ix {K : PySem.W.Frag} : SatO cl gIx (rIx K) := fun ρ S H x y v u k Q D rx ry h L => by
  cases x with
  | ref p =>
    cases y with
    | int i =>
      simp only [gIx] at h
      split at h
      · rename_i xs e
        split at h
        · rename_i w e2
          obtain ⟨a, vs, h1, h2, h3⟩ := seqAt_ok (K := K) D e
          obtain ⟨a', z1, rfl⟩ := rx
          rw [h1] at z1; cases z1
          obtain rfl : u = .int i := ry
          obtain ⟨v, h4, h5⟩ := getI_ok h2 e2
          rcases h3 with h3 | h3
          · exact .inl ⟨a, vs, i, v, rfl, rfl, h3, h4, L _ _ _ _ _ h pre_refl D h5⟩
          · exact .inr (.inl ⟨a, vs, i, v, rfl, rfl, h3, h4, L _ _ _ _ _ h pre_refl D h5⟩)
        · exact ff h
      · exact ff h
    | _ => exact ff h
  | _ => cases y <;> exact ff h
/-! ### len -/
def gLen : List W → SS → KW → Bool := fun xs S k => match xs with
  | [.ref p] => match seqAt S p with
    | some ys => k (.int (Int.ofNat (lenR ys))) S
    | none => false
  | _ => false
theorem sat_len_seq {K : PySem.W.Frag} : SatC cl gLen (fun xs H Q => ∃ p ys, xs = [.ref p] ∧ (SqL K H p ys ∨ SqT K H p ys) ∧ Q (.int ys.length) H) := fun ρ S H xs vs k Q D r h L => by
  unfold gLen at h
  split at h
  · rename_i p
    split at h
    · rename_i ys e
      obtain ⟨a, us, h1, h2, h3⟩ := seqAt_ok (K := K) D e
      cases r with
      | cons r0 rr =>
        cases rr
        obtain ⟨a', z1, rfl⟩ := r0
        rw [h1] at z1; cases z1
        refine ⟨a, us, rfl, h3, L _ _ _ _ _ h pre_refl D ?_⟩
        show V.int _ = V.int _
        rw [RelWs.len h2, ← lenR_eq]
        rfl
    · exact ff h
  · exact ff h
/-! ### targets -/
abbrev FGs := List W → EE → SS → (EE → SS → Bool) → Bool
def gfNil : FGs := fun ws E S k => match ws with
  | [] => k E S
  | _ => false
def gfCons (g : FG) (r : FGs) : FGs := fun ws E S k => match ws with
  | w :: l => g w E S fun E1 S1 => r l E1 S1 k
  | [] => false
def gfTup (n : Nat) (r : FGs) : FG := fun w E S k => match w with
  | .ref p => match seqAt S p with
    | some xs => match getS S p with
      | some (.tup _) => Nat.beq (lenR xs) n && r xs E S k
      | _ => false
    | none => false
  | _ => false
def SatGs (cl : CL) (f : FGs) (t : TGs) : Prop := ∀ ρ E S σ H ws vs k (Q : St → Hp → Prop), RelE cl ρ E σ → Den cl ρ S H → RelWs cl ρ ws vs → f ws E S k = true → LinkS cl ρ k Q → t vs σ H Q
theorem sat_gnil : SatGs cl gfNil gNil := fun ρ E S σ H ws vs k Q re D r h L => by
  cases r with
  | nil => exact ⟨rfl, L _ _ _ _ _ h pre_refl D re⟩
  | cons _ _ => exact ff h
theorem sat_gcons {g : FG} {r : FGs} {t : TG} {u : TGs} (hg : SatG cl g t) (hr : SatGs cl r u) : SatGs cl (gfCons g r) (gCons t u) := fun ρ E S σ H ws vs k Q re D rl h L => by
  cases rl with
  | nil => exact ff h
  | cons r1 r2 => exact ⟨_, _, rfl, hg ρ E S σ H _ _ _ _ re D r1 h fun E1 S1 ρ1 σ1 H1 h1 p1 D1 re1 => hr ρ1 E1 S1 σ1 H1 _ _ _ _ re1 D1 (RelWs.mono p1 r2) h1 (L.mono p1)⟩
theorem sat_gtup {K : PySem.W.Frag} {n : Nat} {r : FGs} {u : TGs} (hr : SatGs cl r u) : SatG cl (gfTup n r) (gTup K n u) := fun ρ E S σ H w v k Q re D rw' h L => by
  cases w with
  | ref p =>
    simp only [gfTup] at h
    split at h
    · rename_i xs e
      split at h
      · rename_i ys e2
        unfold seqAt at e
        rw [e2] at e
        cases e
        obtain ⟨a, o, h1, h2, vs, rfl, r1⟩ := D.get e2
        obtain ⟨a', z1, rfl⟩ := rw'
        rw [h1] at z1; cases z1
        exact ⟨a, vs, rfl, .inl (.inl h2), (RelWs.len r1).trans ((lenR_eq _).symm.trans (Nat.eq_of_beq_eq_true (band h).1)), hr ρ E S σ H _ _ _ _ re D r1 (band h).2 L⟩
      · exact ff h
    · exact ff h
  | _ => exact ff h
/-! ### xs[i] = v -/
def gfSubL (fo fi : FE) : FG := fun w E S k => fo E S fun o S1 => fi E S1 fun i S2 => match o, i with
  | .ref p, .int j => match getS S2 p with
    | some (.lst xs) => match ixW xs.length j with
      | some m => k E (setS S2 p (.lst (xs.set m w)))
      | none => false
    | _ => false
  | _, _ => false
theorem RelWs.set {ρ : Wd} {w : W} {v : V} (r : RelW cl ρ w v) : ∀ {xs : List W} {vs : List V} (i : Nat), RelWs cl ρ xs vs → RelWs cl ρ (xs.set i w) (vs.set i v)
  | _, _, _, .nil => .nil
  | _, _, 0, .cons _ t => .cons r t
  | _, _, i + 1, .cons q t => .cons q (RelWs.set r i t)
theorem sat_gsubL {fo fi : FE} {to ti : TE} (ho : SatE cl fo to) (hi : SatE cl fi ti) : SatG cl (gfSubL fo fi) (gSub to ti rSetL) := fun ρ E S σ H w v k Q re D rw' h L =>
  ho ρ E S σ H _ _ re D h fun o S1 ρ1 ov H1 h1 p1 D1 r1 => hi ρ1 E S1 σ H1 _ _ (RelE.mono p1 re) D1 h1 fun i S2 ρ2 iv H2 h2 p2 D2 r2 => by
    cases o with
    | ref p =>
      cases i with
      | int j =>
        simp only at h2
        split at h2
        · rename_i xs e
          split at h2
          · rename_i m em
            obtain ⟨a, u, h3, h4, vs, rfl, r3⟩ := D2.get e
            obtain ⟨a', z1, rfl⟩ := RelW.mono p2 r1
            rw [h3] at z1; cases z1
            exact ⟨a, vs, j, m, rfl, r2, h4, by rw [ixW_eq, RelWs.len r3, em], L _ _ _ _ _ h2 (p1.trans p2) (D2.set h3 h4 True.intro ⟨_, rfl, RelWs.set (rw'.mono (p1.trans p2)) m r3⟩) (RelE.mono (p1.trans p2) re)⟩
          · exact ff h2
        · exact ff h2
      | _ => exact ff h2
    | _ => cases i <;> exact ff h2
/-! ### what is walked -/
inductive Src where
  | rng (lo : Int) (n : Nat) | lst (k : Nat) | tup (k : Nat) | wr (xs : List W) | zip (s t : Src)
def nthOr (xs : List W) (S : SS) (i : Nat) : Option (Option (W × SS)) := match getR xs i with
  | some w => some (some (w, S))
  | none => match Nat.beq i (lenR xs) with
    | true => some none
    | false => none
/-- none: nothing is known; some none: the end -/
def itemAt : Src → SS → Nat → Option (Option (W × SS))
  | .rng lo n, S, i => match Nat.blt i n with
    | true => some (some (.int (lo + Int.ofNat i), S))
    | false => some none
  | .lst k, S, i => match getS S k with
    | some (.lst xs) => nthOr xs S i
    | _ => none
  | .tup k, S, i => match getS S k with
    | some (.tup xs) => nthOr xs S i
    | _ => none
  | .wr xs, S, i => nthOr xs S i
  | .zip s t, S, i => match itemAt s S i with
    | some none => match itemAt t S i with
      | some _ => some none
      | none => none
    | some (some (w, S1)) => match itemAt t S1 i with
      | some none => some none
      | some (some (u, S2)) => some (some (.ref (lenS S2), pushS S2 (.tup [w, u])))
      | none => none
    | none => none
def SatSrc (cl : CL) (ρ : Wd) (J : It) (src : Src) : Prop := ∀ ρ' S H i, Wd.le ρ ρ' → Den cl ρ' S H →
  match itemAt src S i with
  | some (some (w, S1)) => J.go i H ∧ ∀ x H', J.yld i H x H' → ∃ ρ1, Wd.le ρ' ρ1 ∧ Den cl ρ1 S1 H' ∧ RelW cl ρ1 w x
  | some none => J.stop i H
  | none => True
abbrev FI := EE → SS → (Src → SS → Bool) → Bool
def SatI (cl : CL) (f : FI) (wi : TI) : Prop := ∀ ρ E S σ H k (R : It → Hp → Prop), RelE cl ρ E σ → Den cl ρ S H → f E S k = true →
  (∀ src S' ρ' J H', k src S' = true → Wd.le ρ ρ' → Den cl ρ' S' H' → SatSrc cl ρ' J src → R J H') → wi σ H R
def rngOk (j : Int) : Bool := PySem.W.Z.leB (-4611686018427387904) j && PySem.W.Z.ltB j 4611686018427387904
def fiRng1 (fa : FA) : FI := fun E S k => fa E S fun ws S1 => match ws with
  | [.int j] => rngOk j && k (.rng 0 j.toNat) S1
  | _ => false
theorem satSrc_rng {ρ : Wd} {lo : Int} {n : Nat} : SatSrc cl ρ (Itr lo n) (.rng lo n) := fun ρ' S H i _ D => by
  cases q : Nat.blt i n with
  | true =>
    simp only [itemAt, q]
    exact ⟨PySem.W.Z.blt_iff.mp q, fun x H' ⟨e1, e2⟩ => ⟨ρ', pre_refl, e1 ▸ D, e2⟩⟩
  | false =>
    simp only [itemAt, q]
    show n ≤ i
    apply Nat.le_of_not_lt
    intro h
    rw [PySem.W.Z.blt_iff.mpr h] at q
    cases q
theorem sat_rng1 {fa : FA} {ta : TA} (ha : SatA cl fa ta) : SatI cl (fiRng1 fa) (iRng1 ta) := fun ρ E S σ H k R re D h L =>
  ha ρ E S σ H _ _ re D h fun ws S1 ρ1 vs H1 h1 p1 D1 r1 => by
    split at h1
    · rename_i j
      cases r1 with
      | cons r0 rr =>
        cases rr
        cases r0
        have hj := (band h1).1
        unfold rngOk at hj
        rw [Bool.and_eq_true] at hj
        have a1 := (PySem.W.Z.leB_iff _ _).mp hj.1
        have a2 := (PySem.W.Z.ltB_iff _ _).mp hj.2
        exact ⟨j, rfl, by omega, by omega, L _ _ _ _ _ (band h1).2 p1 D1 satSrc_rng⟩
    · exact ff h1
/-! ### for, its turns one by one -/
def loopS (src : Src) (g : FG) (body : FS) (K : KS) : Nat → Nat → EE → SS → Bool
  | 0, _, _, _ => false
  | m + 1, i, E, S => match itemAt src S i with
    | some (some (w, S1)) => g w E S1 fun E2 S2 => body { nx := loopS src g body K m (i + 1), rt := K.rt, bk := K.nx, ct := loopS src g body K m (i + 1) } E2 S2
    | some none => K.nx E S
    | none => false
def fFor (fuel : Nat) (fi : FI) (g : FG) (body : FS) : FS := fun K E S => fi E S fun src S1 => loopS src g body K fuel 0 E S1
theorem sat_for {fuel : Nat} {fi : FI} {g : FG} {body : FS} {wi : TI} {tg : TG} {tb : TS} (hi : SatI cl fi wi) (hg : SatG cl g tg) (hb : SatS cl body tb) : SatS cl (fFor fuel fi g body) (tFor wi tg tb) := fun ρ E S σ H K D re Dn h L =>
  hi ρ E S σ H _ _ re Dn h fun src S1 ρ1 J H1 h1 p1 D1 sj => by
    refine ⟨fun i m σ H => ∃ ρ' E S, Wd.le ρ1 ρ' ∧ RelE cl ρ' E σ ∧ Den cl ρ' S H ∧ loopS src g body K m i E S = true, ⟨fuel, ρ1, E, S1, pre_refl, re.mono p1, D1, h1⟩, ?_⟩
    rintro i m σ H ⟨ρ', E', S', p', re', D', h'⟩
    cases m with
    | zero => exact ff h'
    | succ m =>
      have q := sj ρ' S' H i p' D'
      unfold loopS at h'
      split at h'
      · rename_i w S1' e
        rw [e] at q
        refine .inr ⟨q.1, fun σ' H' => ∃ ρ2 E2 S2, Wd.le ρ1 ρ2 ∧ RelE cl ρ2 E2 σ' ∧ Den cl ρ2 S2 H' ∧ loopS src g body K m (i + 1) E2 S2 = true, fun σ' H' z => ⟨m, Nat.lt_succ_self m, z⟩, fun x H' y => ?_⟩
        obtain ⟨ρy, py, Dy, rx⟩ := q.2 x H' y
        refine hg ρy E' S1' σ H' w x _ _ (RelE.mono py re') Dy rx h' fun E2 S2 ρ2 σ2 H2 h2 p2 D2 re2 => hb ρ2 E2 S2 σ2 H2 _ _ re2 D2 h2 ?_
        have pp := p1.trans (p'.trans (py.trans p2))
        exact ⟨fun E3 S3 ρ3 σ3 H3 h3 p3 D3 re3 => ⟨ρ3, E3, S3, (p'.trans (py.trans p2)).trans p3, re3, D3, h3⟩, L.rt.mono pp, L.nx.mono pp, fun E3 S3 ρ3 σ3 H3 h3 p3 D3 re3 => ⟨ρ3, E3, S3, (p'.trans (py.trans p2)).trans p3, re3, D3, h3⟩⟩
      · rename_i e
        rw [e] at q
        exact .inl ⟨q, L.nx _ _ _ _ _ h' (p1.trans p') D' re'⟩
      · exact ff h'
/-! ### list comprehensions, turn by turn -/
def wipeE (E : EE) : List Nat → EE
  | [] => E
  | v :: vs => (wipeE E vs).set v none
theorem RelE.forget {ρ : Wd} : ∀ {E : EE} {σ : St} (i : Nat), RelE cl ρ E σ → RelE cl ρ (E.set i none) (σ.set i none)
  | _, _, _, .nil => .nil
  | _, _, 0, .cons _ t => .cons (fun _ e => nomatch e) t
  | _, _, i + 1, .cons q t => .cons q (RelE.forget i t)
theorem RelE.wipe {ρ : Wd} {E : EE} {σ : St} (r : RelE cl ρ E σ) : ∀ vs : List Nat, RelE cl ρ (wipeE E vs) (wipe σ vs)
  | [] => r
  | v :: vs => RelE.forget v (RelE.wipe r vs)
end
section
variable {cl : CL}
/-! ### a comprehension's own names -/
theorem wipe_get (σ : L2.St) (j : Nat) : ∀ vs : List Nat, (wipe σ vs)[j]? = if j ∈ vs then (if j < σ.length then some none else none) else σ[j]?
  | [] => by simp [wipe]
  | v :: vs => by
    unfold wipe
    have ih := wipe_get σ j vs
    by_cases h : v = j
    · subst h
      rw [List.getElem?_set_self', if_pos (by simp)]
      rw [ih]
      by_cases hm : v ∈ vs
      · rw [if_pos hm]; split <;> rfl
      · rw [if_neg hm]
        by_cases hl : v < σ.length
        · rw [if_pos hl, List.getElem?_eq_getElem hl]; rfl
        · rw [if_neg hl, List.getElem?_eq_none (by omega)]; rfl
    · rw [List.getElem?_set_ne h, ih]
      have : (j ∈ v :: vs) ↔ j ∈ vs := by
        simp only [List.mem_cons]
        constructor
        · rintro (e | e)
          · exact absurd e.symm h
          · exact e
        · exact .inr
      by_cases hm : j ∈ vs
      · rw [if_pos hm, if_pos (this.mpr hm)]
      · rw [if_neg hm, if_neg (fun z => hm (this.mp z))]
theorem wipe_set {σ : L2.St} {i : Nat} {x : Option V} {vs : List Nat} (h : i ∈ vs) : wipe (σ.set i x) vs = wipe σ vs := by
  apply List.ext_getElem?
  intro j
  rw [wipe_get, wipe_get, List.length_set]
  by_cases hm : j ∈ vs
  · rw [if_pos hm, if_pos hm]
  · rw [if_neg hm, if_neg hm, List.getElem?_set_ne]
    intro e; subst e; exact hm h
theorem wipe_wipe {σ : L2.St} {vs : List Nat} : wipe (wipe σ vs) vs = wipe σ vs := by
  apply List.ext_getElem?
  intro j
  rw [wipe_get, wipe_length]
  by_cases hm : j ∈ vs
  · rw [if_pos hm, wipe_get, if_pos hm]
  · rw [if_neg hm]
/-- a target that stores into the block's own names alone -/
def Own (vs : List Nat) (t : TG) : Prop := ∀ v σ σ0 H (Q : L2.St → Hp → Prop), wipe σ vs = wipe σ0 vs → t v σ H Q → t v σ H fun σ2 H2 => wipe σ2 vs = wipe σ0 vs ∧ Q σ2 H2
def Owns (vs : List Nat) (t : TGs) : Prop := ∀ v σ σ0 H (Q : L2.St → Hp → Prop), wipe σ vs = wipe σ0 vs → t v σ H Q → t v σ H fun σ2 H2 => wipe σ2 vs = wipe σ0 vs ∧ Q σ2 H2
theorem own_name {vs : List Nat} {i : Nat} (h : i ∈ vs) : Own vs (gName i) := fun v σ σ0 H Q e q => ⟨(wipe_set h).trans e, q⟩
theorem owns_nil {vs : List Nat} : Owns vs gNil := fun v σ σ0 H Q e q => ⟨q.1, e, q.2⟩
theorem owns_cons {vs : List Nat} {t : TG} {u : TGs} (a : Own vs t) (mt : ∀ v σ H (Q Q' : L2.St → Hp → Prop), (∀ σ' H', Q σ' H' → Q' σ' H') → t v σ H Q → t v σ H Q') (b : Owns vs u) : Owns vs (gCons t u) := fun v σ σ0 H Q e ⟨x, r, e1, q⟩ =>
  ⟨x, r, e1, mt _ _ _ _ _ (fun σ' H' z => b r σ' σ0 H' Q z.1 z.2) (a x σ σ0 H _ e q)⟩
theorem own_tup {K : PySem.W.Frag} {vs : List Nat} {n : Nat} {u : TGs} (b : Owns vs u) : Own vs (gTup K n u) := fun v σ σ0 H Q e ⟨a, xs, h1, h2, h3, q⟩ => ⟨a, xs, h1, h2, h3, b xs σ σ0 H Q e q⟩
theorem mono_name {i : Nat} : ∀ v σ H (Q Q' : L2.St → Hp → Prop), (∀ σ' H', Q σ' H' → Q' σ' H') → gName i v σ H Q → gName i v σ H Q' := fun _ _ _ _ _ h q => h _ _ q

def loopL (src : Src) (g : FG) (ft : FT) (fe : FE) (vs : List Nat) (D : Nat) (E0 : EE) (k : SS → Bool) : Nat → Nat → SS → Bool
  | 0, _, _ => false
  | m + 1, i, S => match itemAt src S i with
    | some (some (w, S1)) => g w (wipeE E0 vs) S1 fun E2 S2 => ft E2 S2 fun b S3 => match b with
      | true => fe E2 S3 fun y S4 => match getS S4 D with
        | some (.lst acc) => Nat.blt (lenR acc) 16777216 && loopL src g ft fe vs D E0 k m (i + 1) (setS S4 D (.lst (appR acc [y])))
        | _ => false
      | false => loopL src g ft fe vs D E0 k m (i + 1) S3
    | some none => k S
    | none => false
def fLc (fuel : Nat) (fi : FI) (g : FG) (ft : FT) (fe : FE) (vs : List Nat) : FE := fun E S k => fi E S fun src S1 => loopL src g ft fe vs (lenS S1) E (fun S2 => k (.ref (lenS S1)) S2) fuel 0 (pushS S1 (OB.lst []))
theorem sat_lc {fuel : Nat} {fi : FI} {g : FG} {ft : FT} {fe : FE} {vs : List Nat} {wi : TI} {tg : TG} {tt : TT} {te : TE} (hi : SatI cl fi wi) (hg : SatG cl g tg) (ho : Own vs tg) (ht : SatT cl ft tt) (he : SatE cl fe te) :
    SatE cl (fLc fuel fi g ft fe vs) (tLc wi tg tt te vs) := fun ρ E S σ H k Q re Dn h L =>
  hi ρ E S σ H _ _ re Dn h fun src S1 ρ1 J H1 h1 p1 D1 sj => fun D hD => by
    have nD := D1.new (o := .lst []) (u := .lst []) hD ⟨[], rfl, .nil⟩
    have aD := new_at D1 (p := D)
    refine ⟨fun i m H => ∃ ρ' S, Wd.le (ρ1.push D) ρ' ∧ Den cl ρ' S H ∧ loopL src g ft fe vs (lenS S1) E (fun S2 => k (.ref (lenS S1)) S2) m i S = true, ⟨fuel, ρ1.push D, _, pre_refl, nD, h1⟩, ?_⟩
    rintro i m H ⟨ρ', S', p', D', h'⟩
    have pr : Wd.le ρ1 ρ' := pre_app.trans p'
    cases m with
    | zero => exact ff h'
    | succ m =>
      have q := sj ρ' S' H i pr D'
      unfold loopL at h'
      split at h'
      · rename_i w S1' e
        rw [e] at q
        refine .inr ⟨q.1, fun H' => ∃ ρ2 S2, Wd.le (ρ1.push D) ρ2 ∧ Den cl ρ2 S2 H' ∧ loopL src g ft fe vs (lenS S1) E (fun S2 => k (.ref (lenS S1)) S2) m (i + 1) S2 = true, fun H' z => ⟨m, Nat.lt_succ_self m, z⟩, fun x H' y => ?_⟩
        obtain ⟨ρy, py, Dy, rx⟩ := q.2 x H' y
        replace p' := p'.trans py
        have re' := RelE.wipe (RelE.mono (p1.trans (pr.trans py)) re) vs
        refine ho x (wipe σ vs) σ H' _ wipe_wipe (hg ρy (wipeE E vs) S1' (wipe σ vs) H' w x _ _ re' Dy rx h' fun E2 S2 ρ2 σ2 H2 h2 p2 D2 re2 => ht ρ2 E2 S2 σ2 H2 _ _ re2 D2 h2 fun b S3 ρ3 b' H3 h3 p3 D3 eb => ?_)
        subst eb
        cases b with
        | false =>
          rw [if_neg (by decide)]
          exact ⟨ρ3, S3, p'.trans (p2.trans p3), D3, h3⟩
        | true =>
          rw [if_pos rfl]
          refine he ρ3 E2 S3 σ2 H3 _ _ (RelE.mono p3 re2) D3 h3 fun y' S4 ρ4 v4 H4 h4 p4 D4 r4 => ?_
          split at h4
          · rename_i acc ea
            have pp := p'.trans (p2.trans (p3.trans p4))
            obtain ⟨a, u, z1, z2, us, rfl, z3⟩ := D4.get ea
            have z4 : ρ4.ad[lenS S1]? = some D := get_app pp aD
            rw [z4] at z1; cases z1
            refine ⟨us, z2, ?_, ρ4, _, pp, D4.set (o := .lst (appR acc [y'])) z4 z2 True.intro ⟨_, rfl, by rw [appR_eq]; exact Paired.app z3 (.cons r4 .nil)⟩, (band h4).2⟩
            rw [RelWs.len z3, sizeLine_eq, ← lenR_eq]
            exact PySem.W.Z.blt_iff.mp (band h4).1
          · exact ff h4
      · rename_i e
        rw [e] at q
        exact .inl ⟨q, L _ _ _ _ _ h' (p1.trans pr) D' ⟨D, get_app p' aD, rfl⟩⟩
      · exact ff h'
theorem sat_tests_nil : SatT cl (fun _ S k => k true S) tYes := fun ρ E S σ H k Q re D h L => L _ _ _ _ _ h pre_refl D rfl
end
end RX
end

set_option Elab.async false
set_option linter.all false
set_option maxRecDepth 100000
set_option maxHeartbeats 4000000
/-! Keep: try .. except X as n: a suite that keeps the error; the error is tracked from there on. -/
namespace L2
open PySem PySem.Spec PyProof.Rows
theorem exk_ok {P : Program} {w : World} {H : Hp} {h : Heap} {e C : Addr} {d : Option Addr} {oe : Obj} {vs : Array Value} (he : h.get? e = some oe) (hc : oe.cls = .ref C) (hd : oe.dict = d) (hv : oe.data = .fields vs) : ObjOk P w H h e (exk e C d) :=
  ⟨⟨oe, vs, he, hc, hd, hv⟩, ⟨_, he⟩, fun h1 h2 z k => by
    obtain ⟨o, v, q, r⟩ := z
    exact ⟨o, v, k _ q, r⟩⟩
theorem exk_at {P : Program} {w : World} {H : Hp} {h : Heap} {e C : Addr} {d : Option Addr} (hok : HOk P w H h) (he : H e = some (exk e C d)) : ∃ (oe : Obj) (vs : Array Value), h.get? e = some oe ∧ oe.cls = .ref C ∧ oe.dict = d ∧ oe.data = .fields vs := by
  have x : ObjOk P w H h e (.ext fun h => ∃ (oe : Obj) (vs : Array Value), h.get? e = some oe ∧ oe.cls = .ref C ∧ oe.dict = d ∧ oe.data = .fields vs) := hok e _ he
  exact x.1
section
variable {X : Cx} {pins : List (Addr × Obj)} {σ : St} {H : Hp} {s : Shared}
theorem Inv.keepExc (I : Inv X pins σ H s) {a C : Addr} {d : Option Addr} {oe : Obj} {vs : Array Value} (ha : s.heap.get? a = some oe) (hc : oe.cls = .ref C) (hdc : oe.dict = d) (hd : oe.data = .fields vs) (na : H a = none) (nL : a ≠ X.env.locals)
    (n0 : X.s_0.heap.get? a = none) (np : ∀ p ∈ X.pn ++ pins, p.1 ≠ a) : Inv (X.suite a (X.pn ++ pins)) [] σ (upd H a (exk a C d)) s := by
  have off : ∀ {b : Addr} {u : HO}, H b = some u → upd H a (exk a C d) b = some u := fun {b u} e => by rw [upd_ne (ne_of_none e na)]; exact e
  refine ⟨I.ok.suite _ _, I.os, I.bare, ⟨I.base.keep, I.base.slot, fun b o e n hx => ?_, I.base.there, fun b xs e => off (I.base.tups b xs e), fun b o u e => off (I.base.frzs b o u e), fun b ps e => ?_⟩, I.loc, I.cell, ?_, fun y c e => ?_, fun p hp => ?_, fun b u e => ?_, I.len⟩
  · have nb : b ≠ a := fun z => by
      have e' : X.s_0.heap.get? b = some o := e
      rw [z, n0] at e'; cases e'
    rw [upd_ne nb]
    exact I.base.free b o e n hx
  · obtain ⟨more, q⟩ := I.base.tbls b ps e
    exact ⟨more, off q⟩
  · show upd H a (exk a C d) X.env.locals = none
    rw [upd_ne (Ne.symm nL)]
    exact I.free
  · have nc : c ≠ a := fun z => by
      obtain ⟨v, o, ho, hd'⟩ := I.cell y c e
      rw [z, ha] at ho
      cases ho
      rw [hd] at hd'
      cases hd'
    rw [upd_ne nc]
    exact I.freeC y c e
  · have hp' : p ∈ X.pn ++ pins := by rw [List.append_nil] at hp; exact hp
    obtain ⟨e1, e2, e3, e4, e5⟩ := I.pin p hp'
    refine ⟨e1, ?_, e3, e4, e5⟩
    rw [upd_ne (np p hp')]
    exact e2
  · by_cases hb : b = a
    · subst hb
      rw [upd_same] at e
      cases e
      exact exk_ok ha hc hdc hd
    · rw [upd_ne hb] at e
      exact (I.hok b u e).stay (fun _ _ _ q => q) (fun _ q => off q) fun _ _ q => off q
theorem Inv.unsuiteK {a : Addr} (I : Inv (X.suite a (X.pn ++ pins)) [] σ H s) (ok : X.Ok) : Inv X pins σ H s :=
  ⟨ok, I.os, I.bare, I.base, I.loc, I.cell, I.free, I.freeC, fun p hp => I.pin p (List.mem_append_left _ hp), I.hok, I.len⟩
end
/-- what the clause wishes: the error is kept at a -/
def wKeep (K : PySem.W.Frag) (c : Value) (i : Nat) (ts : TS) (Wout : WX) (D : Ends) : WX := fun cls d σ H =>
  ∃ b, PySem.W.exmOne K cls c = some b ∧ (b = true → ∃ C, cls = .ref C ∧ ∀ a, H a = none → ts { nx := fun σ' H' => D.nx (σ'.set i none) H', rt := D.rt, bk := fun σ' H' => D.bk (σ'.set i none) H', ct := fun σ' H' => D.ct (σ'.set i none) H' } (σ.set i (some (.ref a))) (upd H a (exk a C d))) ∧
    (b = false → Wout cls d σ H)
section
variable {X : Cx} {x n : Str} {c : Value} {i : Nat} {body suite : List Stmt} {b₀ : Stmt} {np pos pos' : Pos} {tb : WX → TS} {ts : TS} {Wout : WX}
theorem ps_try_keep (hs : X.stack = X.env :: X.outer) (hf : X.env.frame = some X.env.locals) (hex : X.ex = []) (hN : X.N.Nodup) (hi : X.N[i]? = some n) (hln : X.env.kindOf n = some .local) (hc : Names X x c) (tk : Takes X Wout)
    (hb : ∀ (W : WX) (pn : List (Addr × Obj)) (xe : Value → Shared → Prop), Takes (X.tr pn xe) W → PassesOwn (model X.prog X.w) X.A X.env xe → PSs (X.tr pn xe) body (tb W))
    (hsu : ∀ (a : Addr) (pn : List (Addr × Obj)), PSs (X.suite a pn) (b₀ :: suite) ts) :
    PS X (.Try body [.ExceptHandler (some (.Name x np)) (some n) (b₀ :: suite) pos'] [] [] pos) (fun D σ H => tb (wKeep X.K c i ts Wout D) D σ H) := by
  refine ⟨fun pins s σ H D I h => ?_⟩
  have ok := I.ok
  have hfr : X.A.frames = some (X.env :: X.outer) := by rw [ok.frames, hs]
  have hloc : Loc X.env.scope n := .inl hln
  refine wpAny_Try_except ?_
  refine wpAny_mono ((hb (wKeep X.K c i ts Wout D) (X.pn ++ pins) (fun e s₁ => wpAny (model X.prog X.w) X.A (noteFrame e X.env) (fun _ s₂ => wpAny (model X.prog X.w) X.A (setFlight e none) (fun _ s₃ =>
    wpAny (model X.prog X.w) X.A (handleBy e X.env [.ExceptHandler (some (.Name x np)) (some n) (b₀ :: suite) pos']) (SP X pins D) X.xe s₃) X.xe s₂) X.xe s₁) (fun u s' xx => ?_) PassesOwn.looking).run [] s σ H D (I.toTry _) h) (fun f s1 hsp => ?_) (fun e s1 he => he)
  · -- the catch
    obtain ⟨a, B, sI, pins', σ', H', cls, d, rfl, J', nb, up, sky, na, os, ag, b, hb1, hyes, hno⟩ := xx
    have J : Inv X pins σ' H' sI := J'.ofTry ok
    have sky' : Sky B (X.env :: X.outer) a (Zc cls d) X.env.locals s'.heap := by rw [← hs]; exact sky
    show wpAny (model X.prog X.w) X.A (noteFrame (.ref a) X.env) _ _ _
    refine Sky.land Zc.steady hfr hf sky' fun h3 fl3 up3 => ?_
    have J3 : Inv X pins σ' H' { s' with heap := h3 } := J.landed nb fl3.1 (up.trans up3) os ag
    obtain ⟨oe3, vs3, he3, hz3, hd3⟩ := fl3.there
    have notFr : ∀ {h : Heap} {o : Obj} {vs : Array Value}, h.FunFrames B (X.env :: X.outer) → h.get? a = some o → o.data = .fields vs → a ∉ frs (X.env :: X.outer) := fun {h o vs} ff e dd hm => by
      obtain ⟨_, o', e', hnf⟩ := ff.mem hm
      rw [e] at e'; cases e'
      exact hnf _ dd
    have nfr := notFr fl3.2.2.1 he3 hd3
    have nL : a ≠ X.env.locals := fun z => nfr (List.mem_filterMap.mpr ⟨X.env, List.mem_cons_self, by rw [hf, z]⟩)
    have nF : a ∉ X.fs := fun hm => by
      obtain ⟨e, he, q⟩ := List.mem_filterMap.mp hm
      exact nfr (List.mem_filterMap.mpr ⟨e, List.mem_cons_of_mem _ he, q⟩)
    have nI : sI.heap.get? a = none := by
      cases q : sI.heap.get? a with
      | none => rfl
      | some o =>
        have z := nb a o q (by rw [hs]; exact nfr)
        rw [fl3.2.1] at z; cases z
    have n0 : X.s_0.heap.get? a = none := by
      cases q : X.s_0.heap.get? a with
      | none => rfl
      | some o =>
        obtain ⟨o', z⟩ := J.base.there a o q (by rw [hex]; simp)
        rw [nI] at z; cases z
    have npin : ∀ p ∈ X.pn ++ pins, p.1 ≠ a := fun p hp z => by
      obtain ⟨e1, _⟩ := J.pin p hp
      rw [z, nI] at e1; cases e1
    have S3 := J3.suite he3 hd3 na nL nF
    refine wpAny_handleBy_cons (codeAny_handlers_test ?_) (by intro q; cases q)
    have LT : PySem.W.Looks (model X.prog X.w) h3 (typeOf (.ref a)) cls := fun A Q E s k q => wpAny_typeOf_ref (k _ _ he3) (by rw [hz3.1]; exact q)
    have LM := PySem.W.exm_one (M := model X.prog X.w) (J3.kIn) LT hb1
    have test : ∀ {Q : Value → Shared → Prop} {E : Value → Shared → Prop}, Q c { s' with heap := h3 } → wpAny (model X.prog X.w) (X.A.mark (some (.ref a))) (eval (.Name x np) X.env) Q E { s' with heap := h3 } := fun {Q E} q => by
      obtain ⟨hg, hdbg, hm | ⟨hm, hv, hnn⟩⟩ := hc
      · exact ld_glob (X := X.suite a ((a, oe3) :: (X.pn ++ pins))) S3 hg hm q hdbg
      · exact ld_blt (X := X.suite a ((a, oe3) :: (X.pn ++ pins))) S3 hg hm hv q hnn hdbg
    refine test (LM.here ?_)
    cases b with
    | true =>
      refine codeAny_handlers_suite_as ?_
      refine HandSPX.lands_againZ fl3 fun h4 fl4 up4 => ?_
      have J4 : Inv X pins σ' H' { s' with heap := h4 } := J.landed nb fl4.1 ((up.trans up3).trans up4) os ag
      obtain ⟨oe4, vs4, he4, hz4, hd4⟩ := fl4.there
      obtain ⟨C, hC, hy⟩ := hyes rfl
      have S4 := J4.keepExc he4 (hz4.1.trans hC) hz4.2 hd4 na nL n0 npin
      refine store_ok (X := X.suite a (X.pn ++ pins)) (v := .ref a) S4 hN hi hloc rfl (fun s5 S5 => ?_) (.inr hln)
      refine wpAny_mono ((hsu a (X.pn ++ pins)).run [] s5 _ _ _ S5 (hy a na)) (fun f s6 hsp => ?_) (fun _ _ z => False.elim z)
      have end_ : ∀ {σ6 : St} {H6 : Hp} {Q : Shared → Prop}, Inv (X.suite a (X.pn ++ pins)) [] σ6 H6 s6 → (∀ s7, Inv X pins (σ6.set i none) H6 s7 → Q s7) →
          wpAny (model X.prog X.w) X.A (do bindName X.env n .none; unbindBehindTheSuite X.env n pos') (fun _ s7 => Q s7) X.xe s6 := fun {σ6 H6 Q} S6 hq => gone_ok (S6.unsuiteK ok) hN hi hln hq
      cases f with
      | next =>
        obtain ⟨σ6, H6, S6, q6⟩ := hsp
        exact end_ S6 fun s7 J7 => ⟨_, _, J7, q6⟩
      | brk =>
        obtain ⟨σ6, H6, S6, q6⟩ := hsp
        exact end_ S6 fun s7 J7 => ⟨_, _, J7, q6⟩
      | cont =>
        obtain ⟨σ6, H6, S6, q6⟩ := hsp
        exact end_ S6 fun s7 J7 => ⟨_, _, J7, q6⟩
      | ret u =>
        obtain ⟨v6, σ6, H6, S6, r6, q6⟩ := hsp
        exact end_ S6 fun s7 J7 => ⟨_, _, _, J7, r6, q6⟩
    | false =>
      show wpAny _ X.A (handleBy (.ref a) X.env []) _ _ _
      refine wpAny_handleBy_nil ?_
      obtain ⟨k1, k2, k3, oe, vs, T, oT, ts', he, hz, hd, h1, hr⟩ := id fl3
      unfold PySem.passOn
      refine wpAny_bind (wpAny_field he hd h1 ?_)
      rw [if_neg (show ¬ ((Value.ref T == Value.none) = true) from by simp)]
      have fin : wpAny (model X.prog X.w) X.A (setFlight (.ref a) X.env.frame) (fun _ s4 => wpAny (model X.prog X.w) X.A (throw (.ref a) : Sem Flow) (SP X pins D) X.xe s4) X.xe { s' with heap := h3 } := by
        rw [hf]
        refine HandSPX.setFlight_upZ fl3 fun h4 hh4 up4 => wpAny_throw (tk _ _ ?_)
        exact ⟨a, B, sI, pins, σ', H', cls, d, rfl, J, nb, (up.trans up3).trans up4, .inr (.inr (by rw [hs]; exact hh4)), na, os, ag, hno rfl⟩
      first
        | exact wpAny_bind (wpAny_pure (wpAny_bind fin))
        | exact wpAny_bind fin
  · cases f with
    | next =>
      obtain ⟨σ', H', J', q⟩ := hsp
      exact wpAny_execs_nil ⟨σ', H', J'.ofTry ok, q⟩
    | brk =>
      obtain ⟨σ', H', J', q⟩ := hsp
      exact ⟨σ', H', J'.ofTry ok, q⟩
    | cont =>
      obtain ⟨σ', H', J', q⟩ := hsp
      exact ⟨σ', H', J'.ofTry ok, q⟩
    | ret u =>
      obtain ⟨v, σ', H', J', r, q⟩ := hsp
      exact ⟨v, σ', H', J'.ofTry ok, r, q⟩
end
end L2

set_option Elab.async false
set_option linter.all false
set_option maxRecDepth 100000
set_option maxHeartbeats 4000000
/-! KeepUse: isinstance and fields of a kept error. -/
namespace L2
open PySem PySem.Spec PyProof.Rows
theorem exk_inst {P : Program} {w : World} {H : Hp} {h : Heap} {a D : Addr} {d : Option Addr} (hok : HOk P w H h) (ha : H a = some (exk a D d)) (hd : ∀ dx, d = some dx → ∃ fs, H dx = some (.xd fs)) :
    ∃ (ox : Obj) (od : Option Obj), PySem.W.InstAt h a ox D od ∧ ∀ dx fs, d = some dx → H dx = some (.xd fs) → ∃ (o : Obj) (mA : Str → Option Value), od = some o ∧ (∀ f, RelO (fs.lookup f) (mA f)) ∧ ∀ f, PySem.W.lookIn f o = some (mA f) := by
  obtain ⟨oe, vs, e, hc, hdc, hv⟩ := exk_at hok ha
  obtain ⟨oc, odd, oda, osl⟩ := oe
  dsimp only at hc hdc hv
  subst hc hdc hv
  cases odd with
  | none => exact ⟨_, none, ⟨e, rfl, rfl, trivial⟩, fun dx fs z => nomatch z⟩
  | some dx =>
    obtain ⟨fs, ed⟩ := hd dx rfl
    obtain ⟨mA, hns, hr⟩ := hok dx _ ed
    obtain ⟨od, ho, hl⟩ := lookIn_ns hns
    refine ⟨_, some od, ⟨e, rfl, rfl, ho⟩, fun dx' fs' z1 z2 => ?_⟩
    cases z1
    obtain ⟨mB, hnsB, hrB⟩ := hok _ _ z2
    obtain ⟨od', ho', hl'⟩ := lookIn_ns hnsB
    rw [ho] at ho'; cases ho'
    exact ⟨od, mB, rfl, hrB, fun f => hl' f⟩
/-- isinstance(e, c), e a kept error -/
def rIsK (K : PySem.W.Frag) : List V → Hp → VK → Prop := fun xs H Q => ∃ (a D : Addr) (d : Option Addr) (c : V) (cv : Value) (b : Bool), xs = [.ref a, c] ∧ H a = some (exk a D d) ∧ (∀ dx, d = some dx → ∃ fs, H dx = some (.xd fs)) ∧ ExcC K D ∧
  (∀ u, RelV c u → u = cv) ∧ PySem.W.kitOne K (.ref D) cv = some b ∧ Q (.bl b) H
theorem call_isK {X : Cx} : CallR X (.builtin "isinstance") (rIsK X.K) := by
  intro pins s σ H xs us Q I r h
  obtain ⟨a, D, d, c, cv, b, rfl, ha, hd, C, hcv, e, q⟩ := h
  cases r with
  | cons rx rr =>
    cases rr with
    | cons rt rr =>
      cases rr
      cases rx
      have ec := hcv _ rt
      subst ec
      obtain ⟨ox, od, J, _⟩ := exk_inst I.hok ha hd
      exact PySem.W.kia_one (PySem.W.kitx_excO C.hg C.hk C.hs C.hd C.ha C.hn C.ht C.hm) I.kIn J e (fun z => nomatch z) fun tk => ⟨.bl b, H, I.kept (t' := tk) fun _ _ z => z, rfl, q⟩
/-- e.f, e a kept error -/
def tKpF (K : PySem.W.Frag) (f : Str) (te : TE) : TE := fun σ H Q => te σ H fun x H1 => ∃ (a D dx : Addr) (fs : List (Str × V)) (v : V), x = .ref a ∧ H1 a = some (exk a D (some dx)) ∧ H1 dx = some (.xd fs) ∧ fs.lookup f = some v ∧
  ExcC K D ∧ PySem.W.findIn K (.ref D) f = some none ∧ Q v H1
theorem pe_kpf {X : Cx} {e : Expr} {te : TE} {f : Str} {pos : Pos} (he : PE X e te) (hb : attributeBase e f X.env (eval e X.env) = eval e X.env := by rfl) : PE X (.Attribute e f pos) (tKpF X.K f te) := by
  refine ⟨fun pins s σ H Q I h => ?_⟩
  refine attr_of hb (thn (he.run pins s σ H _ I h) fun u s1 hh => ?_)
  obtain ⟨x, H1, I1, rx, a, D, dx, fs, v, ex, ea, ed, l, C, nf, q⟩ := hh
  subst ex
  obtain rfl : u = Value.ref a := rx
  obtain ⟨ox, od, J, z⟩ := exk_inst I1.hok ea (fun dx' e' => by cases e'; exact ⟨fs, ed⟩)
  obtain ⟨o, mA, rfl, hr, hl⟩ := z dx fs rfl ed
  obtain ⟨u, hu, ru⟩ := RelO.some_of (v := v) (o := mA f) (by rw [← l]; exact hr f)
  exact PySem.HandSPX.exc_get I1.kIn J C.hg C.hk C.hs (PySem.W.findObj_own C.hd nf rfl (by rw [hl, hu])) (handed_of ru) ⟨v, H1, I1.tok _, ru, q⟩
end L2

set_option Elab.async false
set_option linter.all false
set_option maxRecDepth 100000
set_option maxHeartbeats 4000000
/-! Raise: raise X(e, ..), X an own class over ValueError whose __init__ keeps its one or two arguments. -/
namespace L2
open PySem PySem.Spec PyProof.Rows
def fsOf (names : List Str) (vs : List V) : List (Str × V) := (names.zip vs).reverse
/-- what such an __init__ promises -/
def spKeep (K : PySem.W.Frag) (names : List Str) : Sp := fun vs H Q _ => ∃ (a C : Addr) (ws : List V), vs = .ref a :: ws ∧ ws.length = names.length ∧ H a = some (exo a C none) ∧ OexC K C ∧ (∀ f ∈ names, PySem.W.findIn K (.ref C) f = some none) ∧
  ∀ dx H', H dx = none → dx ≠ a → H' a = some (exo a C (some dx)) → H' dx = some (exd dx (fsOf names ws)) → (∀ b, b ≠ a → b ≠ dx → H' b = H b) → Q .non H'
theorem spKeep_len {K : PySem.W.Frag} {names : List Str} {vs : List V} {H : Hp} {Q : VK} {E : XK} (h : spKeep K names vs H Q E) : vs.length = names.length + 1 := by
  obtain ⟨a, C, ws, rfl, h, _⟩ := h
  simp [h]
theorem keep_body1 {K : PySem.W.Frag} {f : Str} {N : List Str} {vs : List V} {H : Hp} {Q : VK} {E : XK} (h : spKeep K [f] vs H Q E) (hN : N.length = 2) : tOst K f (tVar 0) (tVar 1) { nx := fun _ H' => Q .non H', rt := Q } (L2.start N vs) H := by
  obtain ⟨a, C, ws, rfl, hl, ha, T, nf, q⟩ := h
  match ws, hl with
  | [w], _ =>
    refine ⟨_, rfl, _, rfl, a, C, rfl, T, nf f (by simp), .inl ⟨ha, fun dx hd ne => ?_⟩⟩
    exact q dx _ hd ne upd_same (by rw [upd_ne ne, upd_same]; rfl) fun b h1 h2 => by rw [upd_ne h1, upd_ne h2]
theorem keep_body2 {K : PySem.W.Frag} {f g : Str} {N : List Str} {vs : List V} {H : Hp} {Q : VK} {E : XK} (h : spKeep K [f, g] vs H Q E) (hN : N.length = 3) : tSeq (tOst K f (tVar 0) (tVar 1)) (tOst K g (tVar 0) (tVar 2)) { nx := fun _ H' => Q .non H', rt := Q } (L2.start N vs) H := by
  obtain ⟨a, C, ws, rfl, hl, ha, T, nf, q⟩ := h
  match ws, hl with
  | [w, z], _ =>
    refine ⟨_, rfl, _, rfl, a, C, rfl, T, nf f (by simp), .inl ⟨ha, fun dx hd ne => ?_⟩⟩
    refine ⟨_, rfl, _, rfl, a, C, rfl, T, nf g (by simp), .inr ⟨dx, [(f, w)], upd_same, by rw [upd_ne ne, upd_same], by simp, ?_⟩⟩
    refine q dx _ hd ne ?_ upd_same fun b h1 h2 => by rw [upd_ne h2, upd_ne h1, upd_ne h2]
    rw [upd_ne (Ne.symm ne), upd_same]
end L2
noncomputable section
namespace RX
open PySem L2
section
variable {cl : CL}
/-- raise C(e, ..) -/
def fRaise (x : KX) (c : Nat) (names : List Str) (fa : FA) : FS := fun _ E S => fa E S fun ws S1 => Nat.beq (lenR ws) names.length && x c (some (lenS S1)) (pushS S1 (.xd (names.zip ws).reverse))
theorem zip_rel {adr : Nat → Addr} {ρ : Wd} : ∀ {names : List Str} {ws : List W} {vs : List V}, Paired (RelWA adr ρ) ws vs → RelFA adr ρ (names.zip ws) (names.zip vs)
  | [], _, _, _ => .nil
  | _ :: _, _, _, .nil => .nil
  | f :: l, _, _, .cons r t => .cons ⟨rfl, r⟩ (zip_rel t)
theorem Paired.snoc {α β : Type} {R : α → β → Prop} {a : α} {b : β} (r : R a b) : ∀ {l : List α} {m : List β}, Paired R l m → Paired R (l ++ [a]) (m ++ [b])
  | _, _, .nil => .cons r .nil
  | _, _, .cons q t => .cons q (Paired.snoc r t)
theorem Paired.rev {α β : Type} {R : α → β → Prop} : ∀ {l : List α} {m : List β}, Paired R l m → Paired R l.reverse m.reverse
  | _, _, .nil => .nil
  | _, _, .cons r t => by rw [List.reverse_cons, List.reverse_cons]; exact Paired.snoc r (Paired.rev t)
theorem sat_raise {K : PySem.W.Frag} {x : KX} {E0 : XK} {c : Nat} {names : List Str} {fa : FA} {ta : TA} (hx : LinkX cl cl.wd x E0) (T : OexC K (cl.adr c)) (nf : ∀ f ∈ names, PySem.W.findIn K (.ref (cl.adr c)) f = some none) (hn : names.length ≤ 1000) (ha : SatA cl fa ta) :
    SatS cl (fRaise x c names fa) (fun _ σ H => tMkO (cl.adr c) (spKeep K names) [] ta σ H fun cls d H' => E0 cls d H') := fun ρ E S σ H k D re Dn h L =>
  ha ρ E S σ H _ _ re Dn h fun ws S1 ρ1 vs H1 h1 p1 D1 r1 => by
    obtain ⟨h2, h3⟩ := band h1
    have hl := Nat.eq_of_beq_eq_true h2
    rw [lenR_eq] at hl
    have hlv : vs.length = names.length := (RelWs.len r1).trans hl
    refine ⟨by omega, fun a hna => ⟨a, cl.adr c, vs ++ [], rfl, by rw [List.append_nil]; exact hlv, upd_same, T, nf, fun dx H' hd ne ea ed off => ⟨rfl, dx, fsOf names vs, ea, by rw [List.append_nil] at ed; exact ed, ?_, ?_⟩⟩⟩
    · rw [upd_ne ne] at hd
      exact hd
    · have hd1 : H1 dx = none := by rw [upd_ne ne] at hd; exact hd
      have e : upd (L2.del H' a) dx (.xd (fsOf names vs)) = upd H1 dx (.xd (fsOf names vs)) := by
        funext b
        by_cases hb : b = dx
        · rw [hb, upd_same, upd_same]
        · rw [upd_ne hb, upd_ne hb]
          by_cases hba : b = a
          · rw [hba, L2.del_same, hna]
          · rw [L2.del_ne hba, off b hba hb, upd_ne hba]
      rw [e]
      have Dd := D1.new (o := .xd (names.zip ws).reverse) (u := .xd (fsOf names vs)) hd1 ⟨_, rfl, Paired.rev (zip_rel (Paired.imp (fun _ _ q => RelWA.mono pre_app q) r1))⟩
      exact hx c (some (lenS S1)) _ _ (some dx) _ h3 Dd.ge Dd ⟨dx, new_at D1, rfl⟩
end
end RX
end

set_option Elab.async false
set_option linter.all false
set_option maxRecDepth 100000
set_option maxHeartbeats 4000000
/-! HeardX: a lambda handed to a def that calls it in a try and keeps the error. -/
namespace LamX
open PySem PySem.Spec PyProof.Rows L2
section
variable {X : Cx} {pins : List (Addr × Obj)} {σ : L2.St} {H HZ : Hp} {s s1 : Shared}
/-- x(), in the def that got the lambda: an error is wished for at the slots as they stand -/
theorem pe_actS {CXg : CXT} {Eg : XK} {Ng : List Str} {qg : Str} {sg : Scope} {g f c' : Addr} {cdg pm ctv : Value} {params : Arguments} {body : Expr} {scope : Scope} {k i : Nat} {a : Str} {pn : List (Addr × Obj)} {xe : Value → Shared → Prop} {W : WX} {tl : XK → Hp → VK → Prop} {p1 p2 : Pos}
    (I : Inv X pins σ H s) (L : LamS X.env.scope scope) (hf : s.heap.get? f = some (PySem.W.kla_obj "<lambda>" (X.env.qual ++ "<lambda>") params body scope (cloFrom X.env.cells scope.names []) pm c' ctv)) (hfn : H f = none) (hfr : f ∉ frs X.stack)
    (hbind : bindArgs (PySem.W.kla_fn "<lambda>" (X.env.qual ++ "<lambda>") params body scope (cloFrom X.env.cells scope.names []) pm (.ref c') ctv) ⟨[], []⟩ = pure [])
    (tk : Takes ((cxOf CXg X.prog X.w X.K X.mg X.base Ng qg sg g cdg X.A X.stack s H Eg).tr pn xe) W) (hr : Room (k + 1) (X.A.deeper (envOfC qg sg s.heap.objs.size g cdg)))
    (hbody : ∀ (A : Around) (outer : List Env) (s : Shared) (H : Hp) (E : XK), Room k (A.deeper (lamEnv X scope s.heap.objs.size f c')) → ∃ tb : TE, PE (lamCx X A outer s H E scope f c') body tb ∧ ∀ H' Q, tl E H' Q → tb σ H' Q)
    (hN : Ng[i]? = some a) (hv : Vis sg a) (hd : (a == ("__debug__" : Str)) = false := by decide) (hcd : (a == ("__classdict__" : Str)) = false := by decide) :
    PE ((cxOf CXg X.prog X.w X.K X.mg X.base Ng qg sg g cdg X.A X.stack s H Eg).tr pn xe) (.Call (.Name a p1) [] [] p2)
      (fun σZ HZ Q => σZ[i]? = some (some (.ref f)) ∧ HZ c' = some (CodeO c' (X.env.qual ++ "<lambda>")) ∧ tl (fun cls d H' => W cls d σZ H') HZ Q) := by
  refine ⟨fun pinsZ sZ σZ HZ Q IZ h => ?_⟩
  obtain ⟨hs, hc, ht⟩ := h
  refine wpAny_Call_Name_kw (thn ((pe_var (pos := p1) (i := i) hN hv hd hcd).run pinsZ sZ σZ HZ (fun v H1 => v = .ref f ∧ H1 = HZ) IZ ⟨.ref f, hs, rfl, rfl⟩) fun u s1 ⟨v, H1, I1, r1, q1⟩ => ?_)
  obtain ⟨ev, eH⟩ := q1
  subst ev
  rw [eH] at I1
  obtain rfl : u = Value.ref f := r1
  have of1 : s1.heap.get? f = some (PySem.W.kla_obj "<lambda>" (X.env.qual ++ "<lambda>") params body scope (cloFrom X.env.cells scope.names []) pm c' ctv) := I1.base.keep f _ hf hfn hfr (fun z => nomatch (show f ∈ ([] : List Addr) from z))
  refine PySem.W.callWith_F0 ⟨_, _, _, _, of1⟩ ?_
  have un : Un (frs X.stack) [] H HZ s.heap s1.heap := I1.base
  obtain ⟨⟨oc, vs, t, hoc, hdc, hvc⟩, _, _⟩ := I1.hok c' _ hc
  have rc : codeAny (model X.prog X.w) (X.A.deeper (envOfC qg sg s.heap.objs.size g cdg)) (.call (.ref f) ⟨[], []⟩) (CR (L2.CX X.prog X.w) (envOfC qg sg s.heap.objs.size g cdg :: X.stack) X.prog X.w HZ s1 Q (fun cls d H' => W cls d σZ H')) s1 := by
    refine PySem.W.kla_callFunE hr.depth of1 rfl L.co L.gen rfl ⟨c', oc, vs, t, rfl, hoc, hdc, hvc⟩ ?_
    rw [hbind]
    refine wpAny_pure (wpAny_newFunctionEnv (fun y hy => (L.own y hy).2) (fun y hy => absurd hy (by simp)) (fun h₁ hns hsb => ⟨I1.nolimit.fresh _ hsb, ?_⟩) L.kind)
    show codeAny _ _ (.expr body (lamEnv X scope s1.heap.objs.size f c')) _ _
    have kp : ∀ b o, s1.heap.get? b = some o → h₁.get? b = some o := fun b o e => hsb.extBut b o (Nat.ne_of_lt (Heap.lt_size e)) (Heap.get?_push_of_some _ e)
    have J : Inv (lamCx X (X.A.deeper (envOfC qg sg s.heap.objs.size g cdg)) (envOfC qg sg s.heap.objs.size g cdg :: X.stack) s1 HZ (fun cls d H' => W cls d σZ H') scope f c') [] σ HZ { s1 with heap := h₁, toks := s1.toks + ([] : List (Str × Value)).length } :=
      lam_start2 I L I1.env0 hr.hd un hns kp
    obtain ⟨tb, hp, hm⟩ := hbody (X.A.deeper (envOfC qg sg s.heap.objs.size g cdg)) (envOfC qg sg s.heap.objs.size g cdg :: X.stack) s1 HZ (fun cls d H' => W cls d σZ H') (hr.deeper _)
    refine PySem.W.kla_codeExpr (wpAny_mono (hp.run [] _ _ HZ Q J (hm _ _ ht)) (fun v s' hq => ?_) fun e s' hq => hq)
    obtain ⟨w', H', J', rv, q⟩ := hq
    exact ⟨w', H', J'.os, J'.bare, J'.base, J'.hok, rv, q⟩
  have hx : PassesAt (L2.CX X.prog X.w) ((cxOf CXg X.prog X.w X.K X.mg X.base Ng qg sg g cdg X.A X.stack s H Eg).tr pn xe) σZ (fun cls d H' => W cls d σZ H') := passAt tk σZ
  refine wpAny_call (codeAny_mono rc fun r s' hq => ?_)
  cases r with
  | error e => exact hx pinsZ HZ s1 e s' I1 hq
  | ok fl =>
    cases fl with
    | ret u => exact I1.after hq
    | next => exact False.elim hq
    | brk => exact False.elim hq
    | cont => exact False.elim hq
end
/-- the def that calls what it got -/
def GivesToS (X : Cx) (Ng : List Str) (x : Str) (sg : Scope) (g : Addr) (cdg : Value) (bg : List Stmt) (a : Str) (q : Str) (k : Nat) (TT : (XK → Hp → VK → Prop) → Hp → VK → Prop) : Prop :=
  ∀ (f c' : Addr) (s : Shared) (H : Hp) (Q : VK) (tl : XK → Hp → VK → Prop), Room (k + 1) (X.A.deeper (envOfC x sg s.heap.objs.size g cdg)) →
    (∀ (W : WX) (pn : List (Addr × Obj)) (xe : Value → Shared → Prop) (p1 p2 : Pos), Takes ((cxOf C8.CX0 X.prog X.w X.K X.mg X.base Ng x sg g cdg X.A X.stack s H C8.E0).tr pn xe) W →
      PE ((cxOf C8.CX0 X.prog X.w X.K X.mg X.base Ng x sg g cdg X.A X.stack s H C8.E0).tr pn xe) (.Call (.Name a p1) [] [] p2) (fun σZ HZ Q => σZ[0]? = some (some (.ref f)) ∧ HZ c' = some (CodeO c' q) ∧ tl (fun cls d H' => W cls d σZ H') HZ Q)) →
    H c' = some (CodeO c' q) → TT tl H Q →
    ∃ t, PSs (cxOf C8.CX0 X.prog X.w X.K X.mg X.base Ng x sg g cdg X.A X.stack s H C8.E0).nox bg t ∧ t { nx := fun _ H' => Q .non H', rt := Q } (L2.start Ng [.ref f]) H
/-- x(lambda: ..): tl of the lambda's slots, its error wish, .. -/
def tLamS (T : List (Addr × Str)) (TT : (XK → Hp → VK → Prop) → Hp → VK → Prop) (tl : L2.St → XK → Hp → VK → Prop) : TE := fun σ H Q => Tabs T H ∧ ∀ H1, ExtN H H1 → Tabs T H1 → TT (tl σ) H1 Q
section
variable {X : Cx}
theorem pe_lamcallS {T : List (Addr × Str)} {TT : (XK → Hp → VK → Prop) → Hp → VK → Prop} {x a : Str} {g c P : Addr} {k : Nat} {pg : Arguments} {bg : List Stmt} {sg : Scope} {dV kV doc pm cdv ct oc : Value} {an od : Option Addr} {osl : Array (Option Value)} {Ng : List Str}
    {params : Arguments} {body : Expr} {scope : Scope} {tl : L2.St → XK → Hp → VK → Prop} {p lpos pos : Pos} (hg : Gl X x) (hm : X.mg x = some (.ref g)) (hk : PySem.W.keepIn X.K (.ref g) = true)
    (lk : X.K.lookup g = some ⟨oc, od, .func (PySem.W.fnOf x x pg bg sg dV kV doc pm an cdv ct), osl⟩) (hcg : PySem.W.codeIn X.K cdv x = true) (hb : L2.Binds X.K (PySem.W.fnOf x x pg bg sg dV kV doc pm an cdv ct) [a] []) (Sg : FnScope Ng [a] sg) (hNg : Ng[0]? = some a) (hva : Vis sg a)
    (hG : GivesToS X Ng x sg g cdv bg a (X.env.qual ++ "<lambda>") k TT)
    (TB : TabB X.base X.mg c P) (hcode : X.env.code = .ref c) (hmT : (P, X.env.qual ++ "<lambda>") ∈ T) (hu : ∀ p ∈ T, p.1 = P → p.2 = X.env.qual ++ "<lambda>") (hr : Room (k + 2) X.A) (L : LamS X.env.scope scope) (hdef : defaultsOf params X.env = ([], []))
    (hbind : ∀ (q : Str) (cl : List (Str × Addr)) (pm cv ctv : Value), bindArgs (PySem.W.kla_fn "<lambda>" q params body scope cl pm cv ctv) ⟨[], []⟩ = pure [])
    (hbody : ∀ (σ : L2.St) (A : Around) (outer : List Env) (s : Shared) (H : Hp) (E : XK) (f c' : Addr), Room k (A.deeper (lamEnv X scope s.heap.objs.size f c')) → ∃ tb : TE, PE (lamCx X A outer s H E scope f c') body tb ∧ ∀ H' Q, tl σ E H' Q → tb σ H' Q)
    (hdb : (x == ("__debug__" : Str)) = false := by decide) (hd : (a == ("__debug__" : Str)) = false := by decide) (hcd : (a == ("__classdict__" : Str)) = false := by decide) :
    PE X (.Call (.Name x p) [.Lambda params body scope lpos] [] pos) (tLamS T TT tl) := by
  refine ⟨fun pins s σ H Q I h => ?_⟩
  obtain ⟨hT, h⟩ := h
  refine wpAny_Call_Name_kw (ld_glob I hg hm ?_ hdb)
  refine PySem.W.callWith_K (h₀ := X.base) I.ok.mod.kin hk ?_ (by rfl) (by rfl)
  show wpAny _ _ (spliced ((false, eval (.Lambda params body scope lpos) X.env) :: backTo pos (starEach [] X.env))) _ _ s
  refine Calls.spliced_cons (lam_make2 I TB hcode hmT hu hT hdef (L.has I.ok) fun f c' pm' ctv H1 s' I1 eN T1 hf hfn hfr hco => ?_)
  refine Calls.spliced_nil ⟨I1.kIn, ?_⟩
  have rc : codeAny (model X.prog X.w) X.A (.call (.ref g) ⟨[.ref f], []⟩) (CR C8.CX0 X.stack X.prog X.w H1 s' Q C8.E0) s' := by
    refine run_ofS (N := Ng) (ps := [a]) (us := [.ref f]) (vs := [.ref f]) lk hcg Sg hr I1.env0 (hb s' [.ref f] I1.kIn rfl) (.cons rfl .nil) rfl fun hr' => ?_
    obtain ⟨t', ht', hq'⟩ := hG f c' s' H1 Q (tl σ) hr' (fun W pn xe p1 p2 tk => pe_actS (i := 0) I1 L hf hfn hfr (hbind _ _ _ _ _) tk hr' (fun A outer s H E hr2 => hbody σ A outer s H E f c' hr2) hNg hva hd hcd) hco (h H1 eN T1)
    exact ⟨t', ht'.nox, hq'⟩
  refine wpAny_call (codeAny_mono rc fun r s2 hq => ?_)
  cases r with
  | error e => exact (show False from hq).elim
  | ok fl =>
    cases fl with
    | ret u => exact I1.after hq
    | next => exact False.elim hq
    | brk => exact False.elim hq
    | cont => exact False.elim hq
/-- caught, found = (None, None) / try: found = ask() / except X as error: caught = error / .. -/
def TTheard (K : PySem.W.Frag) (Ng : List Str) (cS : Value) (iC iF iE : Nat) (tr : TS) : (XK → Hp → VK → Prop) → Hp → VK → Prop := fun tl H Q => ∀ (f p : Addr), H p = none →
  tl (fun cls d H' => wKeep K cS iE (tAsg (tVar iE) (gName iC)) (fun _ _ _ _ => False) { nx := fun σ H => tr { nx := fun _ H' => Q .non H', rt := Q } σ H, rt := Q } cls d (((L2.start Ng [.ref f]).set iC (some .non)).set iF (some .non)) H') (upd H p (.tup [.non, .non]))
    fun v H' => tr { nx := fun _ H' => Q .non H', rt := Q } ((((L2.start Ng [.ref f]).set iC (some .non)).set iF (some .non)).set iF (some v)) H'
end
end LamX

set_option Elab.async false
set_option linter.all false
set_option maxRecDepth 100000
set_option maxHeartbeats 4000000
/-! RX3: defs and their calls; what a def hears of a lambda; draws, picks; types; own == and str; fields. -/
noncomputable section
namespace RX
open PySem PySem.Spec PyProof.Rows L2
/-! ### a def -/
def endK (k : KW) : KS := ⟨fun _ S => k .non S, k, fun _ _ => false, fun _ _ => false⟩
def spX (adr : Nat → Addr) (tb : List (Addr × Str)) (np nl : Nat) (f : KX → FS) : Sp := fun vs H Q E => ∃ (sh : Nat) (ρ : Wd) (S : SS) (ws : List W) (k : KW) (x : KX), ws.length = np ∧ RelWs ⟨adr, sh, ρ, tb⟩ ρ ws vs ∧ Den ⟨adr, sh, ρ, tb⟩ ρ S H ∧
  f x (endK k) (ws.map some ++ List.replicate nl none) S = true ∧ LinkE ⟨adr, sh, ρ, tb⟩ ρ k Q ∧ LinkX ⟨adr, sh, ρ, tb⟩ ρ x E
theorem spX_len {adr : Nat → Addr} {tb : List (Addr × Str)} {np nl : Nat} {f : KX → FS} {vs : List V} {H : Hp} {Q : VK} {E : XK} (h : spX adr tb np nl f vs H Q E) : vs.length = np := by
  obtain ⟨sh, ρ, S, ws, k, x, h1, h2, _⟩ := h
  exact (Paired.length h2).symm.trans h1
section
variable {cl : CL}
theorem relE_start {ρ : Wd} : ∀ {ws : List W} {vs : List V} (n : Nat), RelWs cl ρ ws vs → RelE cl ρ (ws.map some ++ List.replicate n none) (vs.map some ++ List.replicate n none)
  | _, _, 0, .nil => .nil
  | _, _, n + 1, .nil => .cons (fun _ e => nomatch e) (relE_start n .nil)
  | _, _, n, .cons r t => .cons (fun w e => by cases e; exact ⟨_, rfl, r⟩) (relE_start n t)
theorem spX_run {adr : Nat → Addr} {tb : List (Addr × Str)} {np nl : Nat} {f : KX → FS} {t : TS} {N : List Str} {E : XK} (hN : N.length = np + nl) (hs : ∀ sh ρ x, LinkX ⟨adr, sh, ρ, tb⟩ ρ x E → SatS ⟨adr, sh, ρ, tb⟩ (f x) t) {vs : List V} {H : Hp} {Q : VK} (h : spX adr tb np nl f vs H Q E) :
    t { nx := fun _ H' => Q .non H', rt := Q } (L2.start N vs) H := by
  have hl := spX_len h
  obtain ⟨sh, ρ, S, ws, k, x, h1, h2, D, h3, L, hx⟩ := h
  refine hs sh ρ x hx ρ _ S _ H (endK k) _ ?_ D h3 ⟨fun _ S' ρ' _ H' a b c d => L _ S' ρ' _ H' a b c rfl, L, fun _ _ _ _ _ a _ _ _ => ff a, fun _ _ _ _ _ a _ _ _ => ff a⟩
  unfold L2.start
  rw [hN, hl, show np + nl - np = nl by omega]
  exact relE_start (cl := ⟨adr, sh, ρ, tb⟩) nl h2
theorem linkE_root {ρ : Wd} {S : SS} {H : Hp} {k : KW} {Q : VK} (D : Den cl ρ S H) (L : LinkE cl ρ k Q) : LinkE { cl with wd := ρ } ρ k Q := fun w S' ρ' v H' a b c d => L w S' ρ' v H' a b (c.unroot (D.ge.trans b)) d
theorem linkX_root {ρ : Wd} {S : SS} {H : Hp} {x : KX} {E : XK} (D : Den cl ρ S H) (hx : LinkX cl cl.wd x E) : LinkX { cl with wd := ρ } ρ x E := fun c d S' ρ' dd H' a b e g => hx c d S' ρ' dd H' a (D.ge.trans b) (e.unroot (D.ge.trans b)) g
theorem spX_of {ρ : Wd} {S : SS} {H : Hp} {np nl : Nat} {f : KX → FS} {x : KX} {k : KW} {ws : List W} {vs : List V} {Q : VK} {E : XK} (D : Den cl ρ S H) (hl : ws.length = np) (r : RelWs cl ρ ws vs) (h : f x (endK k) (ws.map some ++ List.replicate nl none) S = true) (L : LinkE cl ρ k Q) (hx : LinkX cl cl.wd x E) :
    spX cl.adr cl.tb np nl f vs H Q E := ⟨cl.sh, ρ, S, ws, k, x, hl, r, D.root, h, linkE_root D L, linkX_root D hx⟩
/-- f(e, ..) -/
def fCall (x : KX) (np nl : Nat) (f : KX → FS) (fa : FA) : FE := fun E S k => fa E S fun ws S1 => Nat.beq (lenR ws) np && f x (endK k) (ws.map some ++ List.replicate nl none) S1
theorem sat_call {x : KX} {E0 : XK} {np nl : Nat} {f : KX → FS} {fa : FA} {ta : TA} (hx : LinkX cl cl.wd x E0) (ha : SatA cl fa ta) : SatE cl (fCall x np nl f fa) (tCall (spX cl.adr cl.tb np nl f) [] E0 ta) := fun ρ E S σ H k Q re D h L =>
  ha ρ E S σ H _ _ re D h fun ws S1 ρ1 vs H1 h1 p1 D1 r1 => by
    obtain ⟨h2, h3⟩ := band h1
    have hl := Nat.eq_of_beq_eq_true h2
    rw [lenR_eq] at hl
    rw [List.append_nil]
    exact spX_of D1 hl r1 h3 (L.mono p1) hx
end
/-- THE RULE for a def -/
theorem fn_okG {adr : Nat → Addr} {tb : List (Addr × Str)} {P : Program} {w : World} {K : PySem.W.Frag} {mg : Str → Option Value} {base : Heap} {x qual : Str} {st : Stmt} {fa : Addr} {fd : FuncData} {N ps : List Str} {k np nl : Nat} {f : KX → FS} (F : Fun K x qual st fa fd) (S : FnScope N ps (defScope st))
    (h1 : ps.length = np) (h2 : N.length = np + nl)
    (hbody : ∀ (cdv : Value) (A : Around) (outer : List Env) (s : Shared) (H : Hp) (E : XK), RoomG k (A.deeper (envOfC qual (defScope st) s.heap.objs.size fa cdv)) →
      ∃ t, PSs (cxOf (L2.CX P w) P w K mg base N qual (defScope st) fa cdv A outer s H E) (defBody st) t ∧ ∀ sh ρ x, LinkX ⟨adr, sh, ρ, tb⟩ ρ x E → SatS ⟨adr, sh, ρ, tb⟩ (f x) t) : FnOkG P w K mg base (L2.CX P w) (k + 1) fa fd ps (spX adr tb np nl f) :=
  F.okG S (fun vs H Q E h => by rw [spX_len h, h1]) fun cdv A outer s H vs Q E hr h => by
    obtain ⟨t, p, q⟩ := hbody cdv A outer s H E hr
    exact ⟨t, p, spX_run h2 q h⟩
theorem fn_ok0 {adr : Nat → Addr} {tb : List (Addr × Str)} {P : Program} {w : World} {K : PySem.W.Frag} {mg : Str → Option Value} {base : Heap} {x qual : Str} {st : Stmt} {fa : Addr} {fd : FuncData} {N ps : List Str} {k np nl : Nat} {f : KX → FS} (F : Fun K x qual st fa fd) (S : FnScope N ps (defScope st))
    (h1 : ps.length = np) (h2 : N.length = np + nl)
    (hbody : ∀ (cdv : Value) (A : Around) (outer : List Env) (s : Shared) (H : Hp) (E : XK), Room k (A.deeper (envOfC qual (defScope st) s.heap.objs.size fa cdv)) →
      ∃ t, PSs (cxOf (L2.CX P w) P w K mg base N qual (defScope st) fa cdv A outer s H E) (defBody st) t ∧ ∀ sh ρ x, LinkX ⟨adr, sh, ρ, tb⟩ ρ x E → SatS ⟨adr, sh, ρ, tb⟩ (f x) t) : FnOk P w K mg base (L2.CX P w) (k + 1) fa fd ps (spX adr tb np nl f) :=
  F.okX S (fun vs H Q E h => by rw [spX_len h, h1]) fun cdv A outer s H vs Q E hr h => by
    obtain ⟨t, p, q⟩ := hbody cdv A outer s H E hr
    exact ⟨t, p, spX_run h2 q h⟩
section
variable {cl : CL} {K : PySem.W.Frag}
/-! ### a lambda heard -/
theorem RelOA.nt {adr : Nat → Addr} {sh : Nat} {ρ : Wd} {a : Addr} {o : OB} {u : HO} (r : RelOA adr sh ρ a o u) (ps : Array Value) : u ≠ .tbl ps := by
  cases o with
  | lst _ => obtain ⟨_, rfl, _⟩ := r; exact fun z => nomatch z
  | tup _ => obtain ⟨_, rfl, _⟩ := r; exact fun z => nomatch z
  | dK _ => obtain ⟨_, rfl, _⟩ := r; exact fun z => nomatch z
  | xd _ => obtain ⟨_, rfl, _⟩ := r; exact fun z => nomatch z
  | exk c d =>
    cases d with
    | none =>
      have e : u = L2.exk a (adr c) none := r
      subst e
      exact fun z => by unfold L2.exk at z; cases z
    | some k =>
      obtain ⟨_, _, rfl⟩ := r
      exact fun z => by unfold L2.exk at z; cases z
  | pen _ _ => obtain ⟨_, _, _, _, rfl, _⟩ := r; exact fun z => nomatch z
  | cells => obtain ⟨_, rfl, _⟩ := r; exact fun z => nomatch z
  | ins _ _ => obtain ⟨_, _, rfl, _⟩ := r; exact fun z => nomatch z
theorem Den.ext {ρ : Wd} {S : SS} {H H1 : Hp} (D : Den cl ρ S H) (hE : LamX.ExtN H H1) (hT : LamX.Tabs cl.tb H1) : Den cl ρ S H1 := ⟨D.len, D.mn, D.nd, fun k o a h1 h2 => let ⟨u, e, r⟩ := D.at' k o a h1 h2; ⟨u, hE a u e (RelOA.nt r), r⟩, D.ge, hT⟩
/-- the slots of the def that hears: caught, found -/
def heardE (n iC iF : Nat) : EE := setR (setR (List.replicate n none) iC (some .non)) iF (some .non)
def fHeard (isS : Nat → Bool) (n iC iF iE : Nat) (rest : FS) (fl : KX → FE) : FE := fun E S k =>
  fl (fun c d S' => isS c && rest (endK k) (setR (setR (heardE n iC iF) iE none) iC (some (.ref (lenS S')))) (pushS S' (.exk c d))) E S
    fun w S' => rest (endK k) (setR (heardE n iC iF) iF (some w)) S'
theorem relE_none {ρ : Wd} : ∀ {n : Nat} {σ : L2.St}, σ.length = n → RelE cl ρ (List.replicate n none) σ
  | 0, [], _ => .nil
  | n + 1, _ :: σ, h => .cons (fun _ e => nomatch e) (relE_none (by simpa using h))
theorem RelE.less {ρ : Wd} {E : EE} {σ : L2.St} (i : Nat) (r : RelE cl ρ E σ) (x : Option V) : RelE cl ρ (setR E i none) (σ.set i x) := by
  have key : ∀ {E : EE} {σ : L2.St} (i : Nat), RelE cl ρ E σ → RelE cl ρ (E.set i none) (σ.set i x) := by
    intro E σ i re
    induction re generalizing i with
    | nil => exact .nil
    | cons q t ih =>
      cases i with
      | zero => exact .cons (fun _ e => nomatch e) t
      | succ i => exact .cons q (ih i)
  rw [setR_eq]
  exact key i r
theorem sat_heard {Ng : List Str} {cS : Value} {n iC iF iE : Nat} {isS : Nat → Bool} {rest : FS} {tr : TS} {fl : KX → FE} {tl : L2.St → XK → Hp → VK → Prop} (hn : Ng.length = n) (h1 : 1 ≤ n) (hiE : iE < n) (hCE : iC ≠ iE) (hS : ∀ c, isS c = true → PySem.W.exmOne K (.ref (cl.adr c)) cS = some true)
    (hr : ∀ (ρ : Wd), SatS { cl with wd := ρ } rest tr) (hl : ∀ (ρ : Wd) (x : KX) (E0 : XK), LinkX { cl with wd := ρ } ρ x E0 → SatE { cl with wd := ρ } (fl x) (fun σ H Q => tl σ E0 H Q)) :
    SatE cl (fHeard isS n iC iF iE rest fl) (LamX.tLamS cl.tb (LamX.TTheard K Ng cS iC iF iE tr) tl) := fun ρ E S σ H k Q re D h L => by
  refine ⟨D.tb, fun H0 hE hT f p0 hp0 => ?_⟩
  have D1 : Den { cl with wd := ρ } ρ S (upd H0 p0 (.tup [.non, .non])) := ((D.ext hE hT).side hp0).root
  have L' := linkE_root D L
  have hlen : (L2.start Ng [V.ref f]).length = n := by
    unfold L2.start
    simp
    omega
  have r0 : RelE { cl with wd := ρ } ρ (heardE n iC iF) (((L2.start Ng [V.ref f]).set iC (some .non)).set iF (some .non)) :=
    RelE.set (cl := { cl with wd := ρ }) (w := .non) (v := .non) rfl iF (RelE.set (cl := { cl with wd := ρ }) (w := .non) (v := .non) rfl iC (relE_none hlen))
  have fin : ∀ {k : KW}, LinkE { cl with wd := ρ } ρ k Q → LinkK { cl with wd := ρ } ρ (endK k) { nx := fun _ H' => Q .non H', rt := Q } := fun L => ⟨fun _ S' ρ' _ H' a b c d => L _ S' ρ' _ H' a b c rfl, L, fun _ _ _ _ _ a _ _ _ => ff a, fun _ _ _ _ _ a _ _ _ => ff a⟩
  refine hl ρ _ _ ?_ ρ E S σ _ _ _ re D1 h fun w S' ρ' v H' hw pp D' rw' => ?_
  · intro c d S' ρ' dd H' hx pp D' rd
    obtain ⟨h2, h3⟩ := band hx
    refine ⟨true, hS c h2, fun _ => ⟨cl.adr c, rfl, fun a ha => ?_⟩, fun z => nomatch z⟩
    have Dk := D'.new (o := .exk c d) (u := L2.exk a (cl.adr c) dd) ha (by
      cases d with
      | none => have e : dd = none := rd; subst e; rfl
      | some k => obtain ⟨dx, e, rfl⟩ := rd; exact ⟨dx, get_app pre_app e, rfl⟩)
    refine ⟨V.ref a, ?_, ?_⟩
    · rw [List.getElem?_set_self (by simpa using (by omega : iE < (L2.start Ng [V.ref f]).length))]
    · refine hr ρ (ρ'.push a) _ _ _ _ _ _ ?_ Dk h3 ((fin L').mono (pp.trans pre_app))
      have r1 := RelE.set (cl := { cl with wd := ρ }) (w := .ref (lenS S')) (v := .ref a) ⟨a, new_at D', rfl⟩ iC (RelE.less (cl := { cl with wd := ρ }) iE (RelE.mono (cl := { cl with wd := ρ }) (pp.trans pre_app) r0) none)
      rw [show ((((((L2.start Ng [V.ref f]).set iC (some .non)).set iF (some .non)).set iE (some (V.ref a))).set iC (some (V.ref a))).set iE none) = (((((L2.start Ng [V.ref f]).set iC (some .non)).set iF (some .non)).set iE none).set iC (some (V.ref a))) from by
        rw [List.set_comm _ _ (Ne.symm hCE), List.set_set, List.set_comm _ _ hCE] <;> skip]
      exact r1
  · exact hr ρ ρ' _ S' _ H' _ _ (RelE.set (cl := { cl with wd := ρ }) rw' iF (RelE.mono (cl := { cl with wd := ρ }) pp r0)) D' hw ((fin L').mono pp)
end
end RX
end

set_option Elab.async false
set_option linter.all false
set_option maxRecDepth 100000
set_option maxHeartbeats 2000000
/-! StarKw: f(**d). -/
namespace PySem
open Sem (wp)
section
variable {prog : Program} {w : World} {K : Type} [DecidableEq K] {knd : KeyKind prog w K} {A : Around} {E : Value → Shared → Prop} {s : Shared}
/-- a key that is not there yet -/
theorem wpAny_dictPut_new {d : Addr} {kvs : List (K × Value)} {k : K} {key v : Value} {Q : Unit → Shared → Prop} (hkey : knd.is k key = true) (hm : s.heap.DictOf knd d kvs) (hn : k ∉ kvs.map (·.1))
    (hQ : ∀ h', h'.DictOf knd d (kvs ++ [(k, v)]) → Heap.SameBut d s.heap h' → Q () { s with heap := h' }) (hsz : kvs.length ≤ sizeLine) :
    wpAny (model prog w) A (dictPut d (knd.hash k) key v) Q E s := by
  obtain ⟨o, es, ep, ho, hc, hd, hk, hp, hnd⟩ := hm
  have hes : es.size ≤ sizeLine := by have e1 := hp.length; have e2 : es.toList.length = es.size := by simp
                                      omega
  unfold dictPut
  refine wpAny_bind (wpAny_dictFind_of hkey ho hd hk ?_)
  have hidx : (es.findIdx? fun e => knd.is k e.key) = kvs.findIdx? fun kv => decide (kv.1 = k) := by
    rw [← hp.findIdx k]; obtain ⟨l⟩ := es; simp
  have hi : (es.findIdx? fun e => knd.is k e.key) = none := by
    rw [hidx, List.findIdx?_eq_none_iff]
    intro kv hkv
    exact decide_eq_false fun e => hn (List.mem_map.mpr ⟨kv, hkv, e⟩)
  rw [hi]
  refine wpAny_updateDictKeys (hz := hes) ho hd (hQ _ ⟨_, _, ep + 1, Heap.get?_update_self _ ho (Obj.isFreed_of_dict (Obj.data_mapDictKeys hd _)),
      hc.mapDictKeys _, Obj.data_mapDictKeys hd _, hk.push hkey _, ?_, ?_⟩ (Heap.SameBut.update ..))
  · have := hp.append hkey (knd.hash k) v
    obtain ⟨l⟩ := es
    simpa using this
  · rw [List.map_append, List.nodup_append]
    refine ⟨hnd, by simp, fun a ha b hb => ?_⟩
    simp only [List.map_cons, List.map_nil, List.mem_singleton] at hb
    subst hb
    intro e; subst e; exact hn ha
theorem wpAny_dictFind_new {d : Addr} {kvs : List (K × Value)} {k : K} {key : Value} {Q : Option Nat → Shared → Prop} (hkey : knd.is k key = true) (hm : s.heap.DictOf knd d kvs) (hn : k ∉ kvs.map (·.1)) (h : Q none s) :
    wpAny (model prog w) A (dictFind d key (knd.hash k)) Q E s := by
  obtain ⟨o, es, ep, ho, hc, hd, hk, hp, hnd⟩ := hm
  refine wpAny_dictFind_of hkey ho hd hk ?_
  have hidx : (es.findIdx? fun e => knd.is k e.key) = kvs.findIdx? fun kv => decide (kv.1 = k) := by
    rw [← hp.findIdx k]; obtain ⟨l⟩ := es; simp
  have hi : (es.findIdx? fun e => knd.is k e.key) = none := by
    rw [hidx, List.findIdx?_eq_none_iff]
    intro kv hkv
    exact decide_eq_false fun e => hn (List.mem_map.mpr ⟨kv, hkv, e⟩)
  rw [hi]
  exact h
/-- a dict merged into an empty one -/
theorem wpAny_mergeInto {d a : Addr} {kvs : List (K × Value)} {Q : Unit → Shared → Prop} (hS : (a == sysModules) = false) (hda : d ≠ a) (hd : s.heap.DictOf knd d []) (ha : s.heap.DictOf knd a kvs) (hz : kvs.length ≤ sizeLine)
    (hQ : ∀ h', h'.DictOf knd d kvs → Heap.SameBut d s.heap h' → Q () { s with heap := h' }) : wpAny (model prog w) A (mergeMapping d (.ref a) true) Q E s := by
  have hTa : s.TypeIs (.ref a) "dict" := ha.typeIs
  obtain ⟨od, esd, epd, hod, hcd, hdd, hkd, hpd, hnd⟩ := id hd
  have hesd : esd = #[] := by
    have := hpd.length
    have : esd.toList = [] := List.eq_nil_of_length_eq_zero (by simpa using this)
    obtain ⟨l⟩ := esd
    simpa using this
  obtain ⟨oa, esa, epa, hoa, hca, hda', hka, hpa, hna⟩ := id ha
  unfold mergeMapping
  refine wpAny_bind (wpAny_isInstance (T := "dict") (b := true) hTa PySem.F.sub_dict_dict ?_)
  rw [if_pos rfl]
  refine wpAny_bind (wpAny_specialOf hTa PySem.F.slot_dict_iter.lookup (wpAny_bind (wpAny_pure ?_)))
  have e0 : ((some (Value.builtin "dict.__iter__")) == some (Value.builtin "dict.__iter__")) = true := by decide +kernel
  rw [e0]
  dsimp only
  rw [if_neg (show ¬ (a == sysModules) = true by rw [hS]; exact Bool.false_ne_true)]
  refine wpAny_bind (wpAny_dictEntries hod hdd ?_)
  rw [hesd, if_pos (by rfl)]
  refine wpAny_bind (wpAny_dictEntries hoa hda' ?_)
  have noref : ∀ e ∈ esa, ∀ b, e.key ≠ .ref b := fun e he b q => by
    obtain ⟨k, hk, _⟩ := hka e he
    have := knd.byValue k _ hk
    rw [q] at this
    cases this
  refine wpAny_bind (wpAny_of_eq (a := PUnit.unit) ?_ ?_)
  · rw [← Array.forIn_toList]
    refine forIn_yield_id _ fun e he c => ?_
    have hr := noref e (Array.mem_toList_iff.mp he)
    split
    · rename_i b q
      exact absurd q (hr b)
    · rfl
  refine wpAny_bind (wpAny_dictEntries hoa hda' ?_)
  refine wpAny_bind (wpAny_dictEpoch hoa hda' ?_)
  have hsz : esa.size = kvs.length := by rw [← hpa.length]; exact Array.length_toList.symm
  refine wpAny_bind ?_
  refine wpAny_forIn_list _
    (fun rest q s' => ∃ i, rest = List.drop i (List.range esa.size) ∧ i ≤ esa.size ∧ ∃ h', s' = { s with heap := h' } ∧ h'.DictOf knd d (kvs.take i) ∧ Heap.SameBut d s.heap h')
    _ ?_ ?_ _ _ ⟨0, by simp, Nat.zero_le _, s.heap, rfl, by simpa using hd, Heap.SameBut.refl _ _⟩
  · rintro x rest q s' ⟨i, hr, hi, h', rfl, hd', hs⟩
    have hlt : i < esa.size := by
      rcases Nat.lt_or_ge i esa.size with h | h
      · exact h
      · rw [List.drop_eq_nil_of_le (by simpa using h)] at hr; simp at hr
    obtain ⟨rfl, hrest⟩ : x = i ∧ rest = List.drop (i + 1) (List.range esa.size) := by
      rw [List.drop_eq_getElem_cons (by simpa using hlt)] at hr
      injection hr with h1 h2
      exact ⟨by simpa using h1, h2⟩
    have hoa2 : h'.get? a = some oa := (hs.2 a hda.symm).trans hoa
    have hlt' : x < kvs.length := by rw [← hsz]; exact hlt
    obtain ⟨k, v, hkv⟩ : ∃ k v, kvs[x] = (k, v) := ⟨_, _, rfl⟩
    obtain ⟨hkey, hval⟩ := hpa.get? (i := x) (e := esa[x]) (k := k) (v := v) (by rw [Array.getElem?_toList]; exact Array.getElem?_eq_getElem hlt) (by rw [List.getElem?_eq_getElem hlt', hkv])
    obtain ⟨k', hk', hh⟩ := hka esa[x] (Array.getElem_mem hlt)
    have ekk : k' = k := knd.inj _ _ _ hk' hkey
    rw [ekk] at hh
    have hnot : k ∉ (kvs.take x).map (·.1) := fun hm => by
      have hs2 : kvs = kvs.take x ++ (k, v) :: kvs.drop (x + 1) := by
        rw [← hkv, ← List.drop_eq_getElem_cons hlt', List.take_append_drop]
      rw [hs2, List.map_append, List.nodup_append] at hna
      exact hna.2.2 k hm k (by simp) rfl
    have htake : kvs.take (x + 1) = kvs.take x ++ [(k, v)] := by
      rw [List.take_succ, List.getElem?_eq_getElem hlt', hkv]; rfl
    refine wpAny_bind (wpAny_dictEntries hoa2 hda' ?_)
    rw [Array.getElem?_eq_getElem hlt]
    dsimp only
    refine wpAny_bind (wpAny_holding ?_)
    rw [if_pos rfl, hh]
    refine wpAny_bind (wpAny_dictFind_new hkey hd' hnot ?_)
    rw [if_neg (by simp)]
    refine wpAny_dictPut_new hkey hd' hnot (fun h2 hd2 hs2 => ?_) (by rw [List.length_take]; omega)
    have hoa3 : h2.get? a = some oa := (hs2.2 a hda.symm).trans hoa2
    refine wpAny_bind (wpAny_dictEpoch hoa3 hda' ?_)
    rw [if_neg (by simp)]
    rw [hval] at hd2
    exact wpAny_pure ⟨x + 1, hrest, hlt, h2, rfl, by rw [htake]; exact hd2, hs.trans hs2⟩
  · rintro q s' ⟨i, hr, hi, h', rfl, hd', hs⟩
    have hin : i = esa.size := by
      rcases Nat.lt_or_ge i esa.size with h | h
      · rw [List.drop_eq_getElem_cons (by simpa using h)] at hr; exact nomatch hr
      · exact Nat.le_antisymm hi h
    rw [hin, hsz, List.take_length] at hd'
    exact wpAny_pure (hQ h' hd' hs)
/-- the keywords of a dict with text keys -/
theorem wpAny_keywordsIn {f : Value} {d : Addr} {o : Obj} {es : Array DictEntry} {ep : Nat} {kw : List (Str × Value)} {Q : List (Str × Value) → Shared → Prop} (ho : s.heap.get? d = some o) (hd : o.data = .dict es ep)
    (hk : Paired (fun (e : DictEntry) (q : Str × Value) => (∃ t, e.key = .str q.1 t) ∧ e.val = q.2) es.toList kw) (h : Q kw s) : wpAny (model prog w) A (keywordsIn f d) Q E s := by
  unfold keywordsIn
  refine wpAny_bind (wpAny_dictEntries ho hd ?_)
  dsimp only
  refine wpAny_bind ?_
  rw [← Array.forIn_toList]
  refine wpAny_forIn_list _ (fun rest q s' => s' = s ∧ ∃ done todo, kw = done ++ todo ∧ q = done ∧ Paired (fun (e : DictEntry) (q : Str × Value) => (∃ t, e.key = .str q.1 t) ∧ e.val = q.2) rest todo) _ ?_ ?_ _ _ ⟨rfl, [], kw, rfl, rfl, hk⟩
  · rintro x rest q s' ⟨rfl, done, todo, e1, rfl, p⟩
    cases p with
    | cons r t =>
      rename_i y l
      obtain ⟨⟨tk, e2⟩, e3⟩ := r
      rw [e2]
      dsimp only
      refine wpAny_pure ⟨rfl, q ++ [y], l, by rw [e1]; simp, by rw [e3], t⟩
  · rintro q s' ⟨rfl, done, todo, e1, rfl, p⟩
    cases p
    rw [List.append_nil] at e1
    subst e1
    exact wpAny_pure h
theorem wpAny_mergedKeywords1 {f : Value} {x : Sem Value} {Q : Addr → Shared → Prop}
    (h : wpAny (model prog w) A x (fun m s1 => wpAny (model prog w) A (mergeMapping s.heap.objs.size m true) (fun _ s2 => Q s.heap.objs.size s2) (fun _ _ => False) s1) E { s with heap := s.heap.push { cls := .type "dict", data := .dict #[] } }) :
    wpAny (model prog w) A (mergedKeywords f [(none, x)]) Q E s := by
  unfold mergedKeywords
  refine wpAny_bind (wpAny_alloc ?_)
  refine wpAny_bind (wpAny_holding ?_)
  refine wpAny_bind ?_
  rw [List.forIn_cons]
  dsimp only
  refine wpAny_bind (wpAny_bind ?_)
  refine wpAny_pure ?_
  refine wpAny_bind (wpAny_mono h (fun m s1 h1 => ?_) fun _ _ e => e)
  refine wpAny_bind (wpAny_onRaise (wpAny_holding (wpAny_tryCatch (wpAny_onRaise (wpAny_mono h1 (fun _ s2 h2 => ?_) fun _ _ e => e.elim)))))
  refine wpAny_pure ?_
  dsimp only
  rw [List.forIn_nil]
  refine wpAny_pure ?_
  rw [if_pos (show (([] : List (Str × Sem Value)).isEmpty) = true from rfl)]
  exact wpAny_pure (wpAny_pure h2)
theorem wpAny_evalArgs_kwStar {f : Value} {x : Sem Value} {Q : Args → Shared → Prop}
    (h : wpAny (model prog w) A x (fun m s1 => wpAny (model prog w) A (mergeMapping s.heap.objs.size m true) (fun _ s2 => wpAny (model prog w) A (keywordsIn f s.heap.objs.size) (fun kw s3 => Q ⟨[], kw⟩ s3) E s2) (fun _ _ => False) s1) E { s with heap := s.heap.push { cls := .type "dict", data := .dict #[] } }) :
    wpAny (model prog w) A (evalArgs f true [] [(none, x)]) Q E s := by
  unfold evalArgs
  refine wpAny_bind (wpAny_bind (Calls.spliced_nil (wpAny_pure ?_)))
  refine wpAny_bind (wpAny_pure ?_)
  refine wpAny_holding ?_
  rw [if_neg (by intro z; exact absurd (show false = true from z) (by decide))]
  refine wpAny_bind (wpAny_mergedKeywords1 (wpAny_mono h (fun m s1 h1 => wpAny_mono h1 (fun _ s2 h2 => ?_) fun _ _ e => e) fun _ _ e => e))
  refine wpAny_bind (wpAny_pure ?_)
  exact wpAny_bind (wpAny_holding (wpAny_mono h2 (fun kw s3 h3 => wpAny_pure h3) fun _ _ e => e))
open PySem.W PySem.Calls PyProof.Rows in
theorem ks_callKw {f : Value} {first : List Value} {pos : Pos} {Q : Value → Shared → Prop} {P : Heap → Prop} {kws : List (Option Str × Sem Value)} (hst : kws.any (·.1.isNone) = true)
    (hk : ∀ h, P h → ∃ k, (k = Keeper.frame ∨ k = Keeper.machine ∨ k = Keeper.boundFrame) ∧ Looks (model prog w) h (keeperOf f) k)
    (h : wpAny (model prog w) A (evalArgs f true [] kws) (fun a s₁ => P s₁.heap ∧ wpAny (model prog w) A (call f (first ++ a.pos) a.kw) Q E s₁) E s) : wpAny (model prog w) A (callWith pos f first [] kws) Q E s := by
  unfold callWith
  refine wpAny_bind (wpAny_holding (wpAny_mono h (fun a s₁ h₁ => wpAny_bind (wpAny_standAt ?_)) fun _ _ x => x))
  obtain ⟨k, hk', L⟩ := hk _ h₁.1
  simp only [List.any_nil, hst, Bool.false_or]
  refine wpAny_bind (L.here ?_)
  have tail : ∀ {t : Sem Value}, wpAny (model prog w) A t Q E s₁ → wpAny (model prog w) A (t >>= fun r => holding [r] point >>= fun _ => pure r) Q E s₁ :=
    fun ht => wpAny_bind (wpAny_mono ht (fun r s₂ hr => wpAny_bind (wpAny_holding (wpAny_point (wpAny_pure hr)))) fun _ _ x => x)
  have marked (mk : Value) : wpAny (model prog w) A (callMarked mk f (first ++ a.pos) a.kw) Q E s₁ := by unfold callMarked; exact Calls.wpAny_keep h₁.2
  rcases hk' with rfl | rfl | rfl <;> dsimp only <;> first | exact tail (marked _) | exact tail (wpAny_operating h₁.2)
end
end PySem
namespace L2
open PySem PySem.Spec PyProof.Rows
/-- x(**d), x a slot that holds the class at C; __init__ has keyword-only parameters alone -/
def tStarMk (C : Addr) (ks : List Str) (sp : Sp) (gV : List V → List V → List V) (E : XK) (tf te : TE) : TE := fun σ H Q => tf σ H fun x H1 => x = .ref C ∧ te σ H1 fun d H2 => ∃ a kvs, d = .ref a ∧ H2 a = some (.dK kvs) ∧ kvs.map (·.1) = ks.map Sum.inr ∧
  ∀ x dx, H2 x = none → H2 dx = none → dx ≠ x → sp (gV [.ref x] (kvs.map (·.2))) (upd (upd H2 dx (.own x)) x (.ins C dx [])) (fun v H3 => v = .non ∧ Q (.ref x) H3) E
theorem kv_zip : ∀ {ks : List Str} {vs : List (Key × Value)}, vs.map (·.1) = ks.map Sum.inr → vs = (ks.map Sum.inr).zip (vs.map (·.2))
  | [], [], _ => rfl
  | [], _ :: _, h => nomatch h
  | _ :: _, [], h => nomatch h
  | k :: ks, v :: vs, h => by
    simp only [List.map_cons, List.cons.injEq] at h
    simp only [List.map_cons, List.zip_cons_cons]
    rw [← kv_zip h.2, ← h.1]
theorem kv_pair {P : Program} {w : World} : ∀ {ks : List Str} {ws : List Value} {es : List DictEntry}, Pairs (mixKind P w) es ((ks.map Sum.inr).zip ws) → Paired (fun (e : DictEntry) (q : Str × Value) => (∃ t, e.key = .str q.1 t) ∧ e.val = q.2) es (ks.zip ws)
  | [], _, _, h => by cases h; exact .nil
  | _ :: _, [], _, h => by cases h; exact .nil
  | k :: ks, w :: ws, _, h => by
    cases h with
    | cons r1 r2 t =>
      refine .cons ⟨?_, r2⟩ (kv_pair t)
      rcases keyIs_shape (k := Sum.inr k) r1 with ⟨i, t, h1, h2⟩ | ⟨x, t, h1, h2⟩
      · exact nomatch h1
      · injection h1 with h1; subst h1; exact ⟨t, h2⟩
theorem kv_vals {κ : Type} {kvs : List (κ × V)} {vs : List (κ × Value)} (r : KV kvs vs) : vs.map (·.1) = kvs.map (·.1) ∧ Vals (kvs.map (·.2)) (vs.map (·.2)) := by
  unfold KV at r
  induction r with
  | nil => exact ⟨rfl, .nil⟩
  | cons h t ih => exact ⟨by simp only [List.map_cons]; rw [ih.1, h.1], .cons h.2 ih.2⟩
section
variable {X : Cx} {CX : CXT} {k : Nat} {f C : Addr} {fd : FuncData} {ps ks : List Str} {sp : Sp} {E : XK} {x : Str} {p pos kp : Pos} {e : Expr} {tf te : TE} {g : List Value → List Value → List Value} {gV : List V → List V → List V}
theorem pe_starMk (M : Mk X.K C f) (F : FnOk X.prog X.w X.K X.mg X.base CX k f fd ps sp) (hr : Room (k + 1) X.A) (hb : KBn X.K fd ps 1 ks g gV) (hx : Passes CX X E) (hf : PE X (.Name x p) tf) (he : PE X e te) :
    PE X (.Call (.Name x p) [] [⟨none, e, kp⟩] pos) (tStarMk C ks sp gV E tf te) := by
  refine ⟨fun pins s σ H Q I h => ?_⟩
  refine wpAny_Call_Name_kw (thn (hf.run pins s σ H _ I h) fun u s1 ⟨v, H1, I1, rv, ev, q⟩ => ?_)
  subst ev
  obtain rfl : u = Value.ref C := rv
  refine PySem.ks_callKw (first := []) (P := X.K.In) (kws := backToKw pos (keywordEach [⟨none, e, kp⟩] X.env)) rfl (PySem.W.keeps_K M.kp) ?_
  refine PySem.wpAny_evalArgs_kwStar (x := do let v ← eval e X.env; standAt pos; pure v) ?_
  have I2 := ClX.pin_new (o := { cls := .type "dict", data := .dict #[] }) (t' := s1.toks) I1 (fun b u e => Heap.get?_push_of_some _ e) (Nat.le_refl _) (Heap.get?_push_size s1.heap rfl) (fun v z => nomatch z)
  refine wpAny_bind (wpAny_mono (he.run _ _ σ H1 _ I2 q) (fun u s2 hq => ?_) fun _ _ z => z)
  obtain ⟨d, H2, I3, rd, a, kvs, ed, ea, hk, q2⟩ := hq
  subst ed
  obtain rfl : u = Value.ref a := rd
  refine wpAny_bind (wpAny_standAt (wpAny_pure ?_))
  obtain ⟨z, hS, vs, rel, dd⟩ := dk_of I3.hok ea
  have hda : s1.heap.objs.size ≠ a := fun z => by
    have := ClX.pin_un I3
    dsimp only at this
    rw [z, ea] at this
    cases this
  have hd : s2.heap.DictOf (mixKind X.prog X.w) s1.heap.objs.size [] := ⟨_, _, _, ClX.pin_at I3, ⟨rfl, rfl, rfl⟩, rfl, fun _ he => by simp at he, .nil, by simp⟩
  refine PySem.wpAny_mergeInto hS hda hd dd (by rw [← rel.length]; exact z) fun h' hd' hs => ?_
  obtain ⟨hkv, hvl⟩ := kv_vals rel
  have hz := kv_zip (hkv.trans hk)
  obtain ⟨o, es, ep, ho, hc, hdd, hks, hps, _⟩ := hd'
  rw [hz] at hps
  refine PySem.wpAny_keywordsIn ho hdd (kv_pair hps) ?_
  have fp := I1.fpOk (H' := H2) (Nat.le_refl _) (ClX.pin_un I3)
  have I4 : Inv X pins σ H2 { s2 with heap := h' } := Inv.turned (t' := s2.toks) (it := s1.heap.objs.size) (ClX.unpin I3) (fun b o hb e => (hs.2 b hb).trans e) fp.1 fp.2.1 fp.2.2.2.1 fp.2.2.2.2.1 fp.2.2.2.2.2
  refine ⟨I4.kIn, ?_⟩
  have hl : (kvs.map (·.2)).length = ks.length := by
    have := congrArg List.length hk
    simpa using this
  exact run_makeK (us := []) (vs := []) M F hr hb hx I4 .nil hvl rfl hl q2
end
end L2

set_option Elab.async false
set_option linter.all false
set_option maxRecDepth 100000
set_option maxHeartbeats 2000000
/-! ZipHeld: dict(zip(t, u)) of two tuples: the zip keeps the pair it gave out, so a new pair is made each time. -/
namespace ZH
open PySem
open PySem.Sem (wp)
section
variable {prog : Program} {w : World} {A : Around} {E : Value → Shared → Prop} {s : Shared} {z TI TO T i1 i2 l1 l2 : Addr} {k : Nat} {xs ys : Array Value} {f : Bool} {oT : Obj}
/-- the state of such a walk -/
structure St (h : Heap) (z TI TO i1 i2 l1 l2 : Addr) (xs ys : Array Value) (k : Nat) : Prop where
  TI : IsPair h TI (.ref i1) (.ref i2)
  i1 : h.IsTupleIter i1 l1 k
  i2 : h.IsTupleIter i2 l2 k
  l1 : h.IsTuple l1 xs
  l2 : h.IsTuple l2 ys
theorem St.next {h h' : Heap} (D : ZipApart z TI TO i1 i2 l1 l2) (S : St h z TI TO i1 i2 l1 l2 xs ys k) (hk : ∀ c o, c ≠ z → c ≠ TO → c ≠ i1 → c ≠ i2 → h.get? c = some o → h'.get? c = some o) (h1 : h'.IsTupleIter i1 l1 (k + 1)) (h2 : h'.IsTupleIter i2 l2 (k + 1)) :
    St h' z TI TO i1 i2 l1 l2 xs ys (k + 1) :=
  ⟨hk _ _ D.TIz D.TITO D.TIi1 D.TIi2 S.TI, h1, h2, S.l1.at fun o e => hk _ o D.l1z D.l1TO D.l1i1 D.l1i2 e, S.l2.at fun o e => hk _ o D.l2z D.l2TO D.l2i1 D.l2i2 e⟩
/-- 'next' with the pair before still out -/
theorem next_item {x y : Value} {Q : Value → Shared → Prop} (D : ZipApart z TI TO i1 i2 l1 l2) (hz : IsZipHeld s.heap z TI TO T f) (hT : s.heap.get? T = some oT) (S : St s.heap z TI TO i1 i2 l1 l2 xs ys k) (hx : xs[k]? = some x) (hy : ys[k]? = some y)
    (hQ : ∀ h', IsZipHeld h' z TI TO T true → St h' z TI TO i1 i2 l1 l2 xs ys (k + 1) → IsPair h' s.heap.objs.size x y → (∀ c o, c ≠ z → c ≠ i1 → c ≠ i2 → s.heap.get? c = some o → h'.get? c = some o) → Q (.ref s.heap.objs.size) { s with heap := h' }) :
    wpAny (model prog w) A (Builtin.«zip.__next__» ⟨[.ref z], []⟩) (fun fin s' => ∃ v, fin = .done (.ret v) ∧ Q v s') E s := by
  show wpAny _ _ (field (.ref z) 2 >>= _) _ _ _
  refine wpAny_bind (wpAny_field hz rfl (x := .bool false) rfl ?_)
  show wpAny _ _ (field (.ref z) 3 >>= _) _ _ _
  refine wpAny_bind (wpAny_field hz rfl (x := .ref TI) rfl ?_)
  refine wpAny_bind (wpAny_seqItems S.TI rfl ?_)
  show wpAny _ _ (Builtin.SmallTypes.ownedTupleIsFree (.ref z) >>= _) _ _ _
  refine wpAny_bind (wpAny_tupleHeld_zip hz hT fun h1 z1 b1 => ?_)
  simp only [Bool.false_eq_true, if_false]
  refine wpAny_bind ?_
  rw [← Array.forIn_toList]
  simp only [List.forIn_cons, List.forIn_nil]
  have k1 : ∀ c o, c ≠ z → s.heap.get? c = some o → h1.get? c = some o := fun c o n e => b1.extBut _ _ n e
  refine wpAny_bind (wpAny_bind (wpAny_holding ?_))
  show wpAny _ _ (Builtin.SmallTypes.nextOf (.ref i1) >>= _) _ _ _
  refine wpAny_bind (RZ.nextOf_tuple_item (s := { s with heap := h1 }) (S.i1.extBut b1.extBut D.i1z) (S.l1.at fun o e => k1 _ o D.l1z e) hx fun h2 j1 b2 => wpAny_pure (wpAny_pure ?_))
  have k2 : ∀ c o, c ≠ z → c ≠ i1 → s.heap.get? c = some o → h2.get? c = some o := fun c o n m e => b2.extBut _ _ m (k1 _ _ n e)
  refine wpAny_bind (wpAny_bind (wpAny_holding ?_))
  show wpAny _ _ (Builtin.SmallTypes.nextOf (.ref i2) >>= _) _ _ _
  refine wpAny_bind (RZ.nextOf_tuple_item (s := { s with heap := h2 }) ((S.i2.extBut b1.extBut D.i2z).extBut b2.extBut D.i12.symm) (S.l2.at fun o e => k2 _ o D.l2z D.l2i1 e) hy fun h3 j2 b3 => wpAny_pure (wpAny_pure (wpAny_pure ?_)))
  have k3 : ∀ c o, c ≠ z → c ≠ i1 → c ≠ i2 → s.heap.get? c = some o → h3.get? c = some o := fun c o n m l e => b3.extBut _ _ l (k2 _ _ n m e)
  have sz : h3.objs.size = s.heap.objs.size := by rw [b3.1, b2.1, b1.1]
  show wpAny _ _ (newTuple [x, y] >>= _) _ _ _
  refine wpAny_bind (wpAny_newTuple (wpAny_pure ⟨_, rfl, ?_⟩))
  show Q (.ref h3.objs.size) _
  have pr : IsPair (h3.push { cls := .type "tuple", data := .seq #[x, y] }) h3.objs.size x y := Heap.get?_push_size _ rfl
  rw [sz] at pr ⊢
  have k4 : ∀ c o, c ≠ z → c ≠ i1 → c ≠ i2 → s.heap.get? c = some o → (h3.push { cls := .type "tuple", data := .seq #[x, y] }).get? c = some o := fun c o n m l e => Heap.get?_push_of_some _ (k3 _ _ n m l e)
  refine hQ _ (Heap.get?_push_of_some _ (b3.extBut _ _ D.i2z.symm (b2.extBut _ _ D.i1z.symm z1))) ?_ pr k4
  exact S.next D (fun c o a _ b e h => k4 c o a b e h) ((j1.extBut b3.extBut D.i12).at fun o e => Heap.get?_push_of_some _ e) (j2.at fun o e => Heap.get?_push_of_some _ e)
theorem next_end {Q : Fin → Shared → Prop} (hh : A.handled = none) (D : ZipApart z TI TO i1 i2 l1 l2) (hz : IsZipHeld s.heap z TI TO T f) (hT : s.heap.get? T = some oT) (S : St s.heap z TI TO i1 i2 l1 l2 xs ys k) (hend : xs[k]? = none ∨ ys[k]? = none)
    (hE : ∀ h' e, (∀ c o, c ≠ z → c ≠ i1 → c ≠ i2 → s.heap.get? c = some o → h'.get? c = some o) → (∃ o, h'.get? e = some o ∧ o.cls = .type "StopIteration") → E (.ref e) { s with heap := h' }) :
    wpAny (model prog w) A (Builtin.«zip.__next__» ⟨[.ref z], []⟩) Q E s := by
  show wpAny _ _ (field (.ref z) 2 >>= _) _ _ _
  refine wpAny_bind (wpAny_field hz rfl (x := .bool false) rfl ?_)
  show wpAny _ _ (field (.ref z) 3 >>= _) _ _ _
  refine wpAny_bind (wpAny_field hz rfl (x := .ref TI) rfl ?_)
  refine wpAny_bind (wpAny_seqItems S.TI rfl ?_)
  show wpAny _ _ (Builtin.SmallTypes.ownedTupleIsFree (.ref z) >>= _) _ _ _
  refine wpAny_bind (wpAny_tupleHeld_zip hz hT fun h1 z1 b1 => ?_)
  simp only [Bool.false_eq_true, if_false]
  refine wpAny_bind ?_
  rw [← Array.forIn_toList]
  simp only [List.forIn_cons, List.forIn_nil]
  have k1 : ∀ c o, c ≠ z → s.heap.get? c = some o → h1.get? c = some o := fun c o n e => b1.extBut _ _ n e
  have T1 := S.i1.extBut b1.extBut D.i1z
  have L1 : h1.IsTuple l1 xs := S.l1.at fun o e => k1 _ o D.l1z e
  cases hx : xs[k]? with
  | none =>
    refine wpAny_bind (wpAny_bind (wpAny_holding ?_))
    show wpAny _ _ (Builtin.SmallTypes.nextOf (.ref i1) >>= _) _ _ _
    exact wpAny_bind (RZ.nextOf_tuple_end (s := { s with heap := h1 }) hh T1 L1 hx fun h2 e b2 he => hE h2 e (fun c o n m _ q => b2 _ _ m (k1 _ _ n q)) he)
  | some x =>
    have hy : ys[k]? = none := by
      rcases hend with h | h
      · rw [hx] at h; cases h
      · exact h
    refine wpAny_bind (wpAny_bind (wpAny_holding ?_))
    show wpAny _ _ (Builtin.SmallTypes.nextOf (.ref i1) >>= _) _ _ _
    refine wpAny_bind (RZ.nextOf_tuple_item (s := { s with heap := h1 }) T1 L1 hx fun h2 j1 b2 => wpAny_pure (wpAny_pure ?_))
    have k2 : ∀ c o, c ≠ z → c ≠ i1 → s.heap.get? c = some o → h2.get? c = some o := fun c o n m e => b2.extBut _ _ m (k1 _ _ n e)
    refine wpAny_bind (wpAny_bind (wpAny_holding ?_))
    show wpAny _ _ (Builtin.SmallTypes.nextOf (.ref i2) >>= _) _ _ _
    exact wpAny_bind (RZ.nextOf_tuple_end (s := { s with heap := h2 }) hh ((S.i2.extBut b1.extBut D.i2z).extBut b2.extBut D.i12.symm) (S.l2.at fun o e => k2 _ o D.l2z D.l2i1 e) hy fun h3 e b3 he => hE h3 e (fun c o n m l q => b3 _ _ l (k2 _ _ n m q)) he)
theorem pyNext_item {x y : Value} {Q : Option Value → Shared → Prop} (D : ZipApart z TI TO i1 i2 l1 l2) (hz : IsZipHeld s.heap z TI TO T f) (hT : s.heap.get? T = some oT) (S : St s.heap z TI TO i1 i2 l1 l2 xs ys k) (hx : xs[k]? = some x) (hy : ys[k]? = some y)
    (hQ : ∀ h', IsZipHeld h' z TI TO T true → St h' z TI TO i1 i2 l1 l2 xs ys (k + 1) → IsPair h' s.heap.objs.size x y → (∀ c o, c ≠ z → c ≠ i1 → c ≠ i2 → s.heap.get? c = some o → h'.get? c = some o) → Q (some (.ref s.heap.objs.size)) { s with heap := h' }) :
    wpAny (model prog w) A (pyNext (.ref z)) Q E s := by
  unfold pyNext
  exact wpAny_bind (wpAny_attempt (wpAny_callSpecial?_slot (name := Str.ofString "__next__") ⟨_, hz, rfl⟩ F.slot_zip_next (wpAny_call_entry F.slot_zip_next ⟨_, hz, rfl⟩ F.entry_zip_next (next_item D hz hT S hx hy fun h' a b c d => wpAny_pure (hQ h' a b c d)) (F.args_zip_next_1 _))))
theorem pyNext_end {Q : Option Value → Shared → Prop} (hh : A.handled = none) (D : ZipApart z TI TO i1 i2 l1 l2) (hz : IsZipHeld s.heap z TI TO T f) (hT : s.heap.get? T = some oT) (S : St s.heap z TI TO i1 i2 l1 l2 xs ys k) (hend : xs[k]? = none ∨ ys[k]? = none)
    (hQ : ∀ h', (∀ c o, c ≠ z → c ≠ i1 → c ≠ i2 → s.heap.get? c = some o → h'.get? c = some o) → Q none { s with heap := h' }) : wpAny (model prog w) A (pyNext (.ref z)) Q E s := by
  unfold pyNext
  refine wpAny_bind (wpAny_attempt (wpAny_callSpecial?_slot (name := Str.ofString "__next__") ⟨_, hz, rfl⟩ F.slot_zip_next (wpAny_call_entry F.slot_zip_next ⟨_, hz, rfl⟩ F.entry_zip_next (next_end hh D hz hT S hend fun h' e hk ⟨o, ho, hc⟩ => ?_) (F.args_zip_next_1 _))))
  exact wpAny_bind (wpAny_isInstance (T := "StopIteration") (b := true) ⟨o, ho, hc⟩ isSubtype_stop (wpAny_pure (hQ _ hk)))
end
/-- zip(t, u) as what dict() takes -/
theorem arg {prog : Program} {w : World} {z TI TO i1 i2 l1 l2 : Addr} (D : ZipApart z TI TO i1 i2 l1 l2) (xs ys : Array Value) :
    PairArg prog w "zip" z [z, TI, TO, i1, i2, l1, l2] [z, TO, i1, i2] (min xs.size ys.size) (fun i k v => xs[i]? = some k ∧ ys[i]? = some v) (fun h => IsZip h z TI TO .none ∧ (∃ a b, IsPair h TO a b) ∧ St h z TI TO i1 i2 l1 l2 xs ys 0) where
  type := fun s ok => ⟨_, ok.1, rfl⟩
  notDict := by decide
  keep := fun h h' ⟨hz, ⟨a, b, hTO⟩, S⟩ hk => ⟨hk _ _ hz, ⟨a, b, hk _ _ hTO⟩, hk _ _ S.TI, S.i1.at fun o e => hk _ o e, S.i2.at fun o e => hk _ o e, S.l1.at fun o e => hk _ o e, S.l2.at fun o e => hk _ o e⟩
  there := fun h ⟨hz, ⟨a, c, hTO⟩, S⟩ b hb => by
    obtain ⟨hTI, ⟨o1, h1, _⟩, ⟨o2, h2, _⟩, ⟨o3, h3, _⟩, ⟨o4, h4, _⟩⟩ := S
    simp only [List.mem_cons, List.not_mem_nil, or_false] at hb
    rcases hb with rfl | rfl | rfl | rfl | rfl | rfl | rfl <;> exact ⟨_, by assumption⟩
  sub := fun b hb => by simp only [List.mem_cons, List.not_mem_nil, or_false] at hb ⊢; rcases hb with h | h | h | h <;> simp [h]
  noKeys := fun A s Q E hA ok h => getAttrOr_miss_zip ok.1 rfl rfl rfl zip_no_keys (by decide +kernel) hA h
  iter := fun A s d Q E hA ⟨hz, ⟨a, b, hTO⟩, S⟩ hd hdf h => by
    simp only [List.mem_cons, List.not_mem_nil, or_false, not_or] at hdf
    obtain ⟨dz, dTI, dTO, di1, di2, dl1, dl2⟩ := hdf
    refine wpAny_pyIter_zip hz (h z [z, TO, i1, i2] (fun i h => St h z TI TO i1 i2 l1 l2 xs ys i ∧ ((IsZip h z TI TO .none ∧ ∃ a b, IsPair h TO a b) ∨ ∃ T f oT, IsZipHeld h z TI TO T f ∧ h.get? T = some oT ∧ T ≠ z ∧ T ≠ i1 ∧ T ≠ i2 ∧ T ≠ d)) s.heap s.toks ?_ ⟨S, .inl ⟨hz, a, b, hTO⟩⟩ (fun _ _ e => e) fun b hb => .inl hb)
    refine ⟨fun hm => ?_, fun i h₁ h₂ st hk => ?_, fun i s₁ Q₁ E₁ hi st hds hQ => ?_, fun s₁ Q₁ E₁ st hQ => ?_⟩
    · simp only [List.mem_cons, List.not_mem_nil, or_false] at hm
      rcases hm with e | e | e | e
      · exact dz e
      · exact dTO e
      · exact di1 e
      · exact di2 e
    · obtain ⟨S, hz⟩ := st
      refine ⟨⟨hk _ _ (Ne.symm dTI) S.TI, S.i1.at fun o e => hk _ o (Ne.symm di1) e, S.i2.at fun o e => hk _ o (Ne.symm di2) e, S.l1.at fun o e => hk _ o (Ne.symm dl1) e, S.l2.at fun o e => hk _ o (Ne.symm dl2) e⟩, ?_⟩
      rcases hz with ⟨hz, a, b, hTO⟩ | ⟨T, f, oT, hz, hT, r1, r2, r3, r4⟩
      · exact .inl ⟨hk _ _ (Ne.symm dz) hz, a, b, hk _ _ (Ne.symm dTO) hTO⟩
      · exact .inr ⟨T, f, oT, hk _ _ (Ne.symm dz) hz, hk _ _ r4 hT, r1, r2, r3, r4⟩
    · obtain ⟨S, hz⟩ := st
      have ex := Array.getElem?_eq_getElem (Nat.lt_of_lt_of_le hi (Nat.min_le_left xs.size ys.size))
      have ey := Array.getElem?_eq_getElem (Nat.lt_of_lt_of_le hi (Nat.min_le_right xs.size ys.size))
      have lt : ∀ {c o}, s₁.heap.get? c = some o → s₁.heap.objs.size ≠ c := fun e => Nat.ne_of_gt (Heap.lt_size e)
      have n1 : s₁.heap.objs.size ≠ i1 := let ⟨_, e, _⟩ := S.i1; lt e
      have n2 : s₁.heap.objs.size ≠ i2 := let ⟨_, e, _⟩ := S.i2; lt e
      rcases hz with ⟨hz, a, b, hTO⟩ | ⟨T, f, oT, hz, hT, r1, r2, r3, r4⟩
      · refine RZ.pyNext_zipT_item D hz S.TI hTO S.i1 S.i2 S.l1 S.l2 ex ey fun h' a1 a2 a3 a4 a5 a6 hk => ?_
        exact hQ s₁.heap.objs.size _ _ h' s₁.toks ⟨ex, ey⟩ (.inl ⟨_, a5, rfl, _, rfl⟩) ⟨S.next D hk a3 a4, .inr ⟨s₁.heap.objs.size, false, _, a1, a5, lt hz, n1, n2, Nat.ne_of_gt hds⟩⟩
          fun c o hc e => hk c o (fun x => hc (by simp [x])) (fun x => hc (by simp [x])) (fun x => hc (by simp [x])) (fun x => hc (by simp [x])) e
      · refine pyNext_item D hz hT S ex ey fun h' a1 a2 a3 hk => ?_
        exact hQ s₁.heap.objs.size _ _ h' s₁.toks ⟨ex, ey⟩ (.inl ⟨_, a3, rfl, _, rfl⟩) ⟨a2, .inr ⟨T, true, oT, a1, hk _ _ r1 r2 r3 hT, r1, r2, r3, r4⟩⟩
          fun c o hc e => hk c o (fun x => hc (by simp [x])) (fun x => hc (by simp [x])) (fun x => hc (by simp [x])) e
    · obtain ⟨S, hz⟩ := st
      have hend : xs[min xs.size ys.size]? = none ∨ ys[min xs.size ys.size]? = none := by
        rcases Nat.le_total xs.size ys.size with h | h
        · exact .inl (Array.getElem?_eq_none (by rw [Nat.min_eq_left h]; exact Nat.le_refl _))
        · exact .inr (Array.getElem?_eq_none (by rw [Nat.min_eq_right h]; exact Nat.le_refl _))
      rcases hz with ⟨hz, a, b, hTO⟩ | ⟨T, f, oT, hz, hT, r1, r2, r3, r4⟩
      · exact RZ.pyNext_zipT_end hA D hz S.TI hTO S.i1 S.i2 S.l1 S.l2 hend fun h' hk => hQ h' s₁.toks fun c o hc e => hk c o (fun x => hc (by simp [x])) (fun x => hc (by simp [x])) (fun x => hc (by simp [x])) (fun x => hc (by simp [x])) e
      · exact pyNext_end hA D hz hT S hend fun h' hk => hQ h' s₁.toks fun c o hc e => hk c o (fun x => hc (by simp [x])) (fun x => hc (by simp [x])) (fun x => hc (by simp [x])) e
end ZH

set_option Elab.async false
set_option linter.all false
set_option maxRecDepth 100000
set_option maxHeartbeats 2000000
/-! DictZip: dict(zip(t, u)), both tuples of one length. -/
namespace L2
open PySem PySem.Spec PyProof.Rows
def tDictZip (K : PySem.W.Frag) (ta : TA) : TE := fun σ H Q => ta σ H fun vs H1 => ∃ (a b : Addr) (ks : List Key) (ys : List V), vs = [.ref a, .ref b] ∧ SqT K H1 a (ks.map kV) ∧ SqT K H1 b ys ∧ ks.length = ys.length ∧
  ∀ p, H1 p = none → Q (.ref p) (upd H1 p (.dK (mergeK [] (ks.zip ys))))
theorem keysZ_at (P : Program) (w : World) : ∀ {ks : List Key} {us : List Value}, Vals (ks.map kV) us → us.length = ks.length ∧ ∀ (i : Nat) (u : Value), us[i]? = some u → ∃ k, ks[i]? = some k ∧ keyIs k u = true
  | [], _, r => by cases r; exact ⟨rfl, fun i u e => by simp at e⟩
  | k :: ks, _, r => by
    rw [List.map_cons] at r
    cases r with
    | cons h t =>
      obtain ⟨h1, h2⟩ := keysZ_at P w t
      refine ⟨by simp [h1], fun i u e => ?_⟩
      cases i with
      | zero =>
        simp at e
        subst e
        exact ⟨k, rfl, kV_is (P := P) (w := w) h⟩
      | succ i => simpa using h2 i u (by simpa using e)
theorem zipZ_kv : ∀ {ks : List Key} {ys : List V} {ws : List Value}, Vals ys ws → KV (ks.zip ys) (ks.zip ws)
  | [], _, _, _ => .nil
  | _ :: _, _, _, .nil => .nil
  | k :: ks, _, _, .cons r t => .cons ⟨rfl, r⟩ (zipZ_kv t)
section
variable {X : Cx} {e e2 : Expr} {ta : TA} {p q pos cpos : Pos}
theorem pe_dictZip (hc : X.calm = true) (hg : Gl X "dict") (hm : X.mg "dict" = none) (hb : bootBuiltins "dict" = some (.type "dict")) (hg2 : Gl X "zip") (hm2 : X.mg "zip" = none) (ha : PA X [e, e2] ta)
    (hs : starEach [e, e2] X.env = (false, eval e X.env) :: starEach [e2] X.env := by rfl) (hpl : (backTo pos (starEach [e2] X.env)).any (·.1) = false := by rfl)
    (na : starEach [.Call (.Name "zip" q) [e, e2] [] pos] X.env = (false, eval (.Call (.Name "zip" q) [e, e2] [] pos) X.env) :: starEach [] X.env := by rfl) :
    PE X (.Call (.Name "dict" p) [.Call (.Name "zip" q) [e, e2] [] pos] [] cpos) (tDictZip X.K ta) := by
  refine ⟨fun pins s σ H Q I h => ?_⟩
  refine Call_ (ld_blt I hg hm hb ?_)
  refine PyProof.Rows.callWith_type1 (PyProof.Rows.args_cons ?_ na) na rfl
  refine Call_ (ld_blt I hg2 hm2 PyProof.Rows.boot_zip (PyProof.Rows.callWith_type1 (thn (ha.run pos pins s σ H _ I h) fun us s1 ⟨vs, H1, I1, r1, q1⟩ => ?_) hs hpl))
  obtain ⟨a, b, ks, ys, ex, hqx, hqy, hl, q1⟩ := q1
  subst ex
  cases r1 with
  | cons r rr =>
    cases rr with
    | cons r' rr =>
      cases rr
      cases r
      cases r'
      obtain ⟨its, rv, p1, hz1⟩ := I1.tuple hqx
      obtain ⟨its2, rv2, p2, _⟩ := I1.tuple hqy
      obtain ⟨o1, ho1, _⟩ := id p1
      obtain ⟨o2, ho2, _⟩ := id p2
      refine RZ.call_zipT (show s1.heap.IsTuple a its.toArray from p1) (show s1.heap.IsTuple b its2.toArray from p2) fun h' hz hTI hTO h1 h2 hsz hk => PyProof.Rows.args_nil ?_
      have D := PySem.W.ktu_apart s1.heap.objs.size a b (Heap.lt_size ho1) (Heap.lt_size ho2)
      have I2 : Inv X pins σ H1 { s1 with heap := h' } := I1.kept (t' := s1.toks) hk
      obtain ⟨k1, k2⟩ := keysZ_at X.prog X.w rv
      have l2 : its2.length = ys.length := rv2.length.symm
      have hn : min its.toArray.size its2.toArray.size = ks.length := by
        simp only [List.size_toArray]
        omega
      have fresh5 : ∀ c, c ∈ [s1.heap.objs.size + 4, s1.heap.objs.size + 3, s1.heap.objs.size, s1.heap.objs.size + 1] → FpOk X pins H1 c := fun c hcm => by
        have hle : s1.heap.objs.size ≤ c := by
          simp only [List.mem_cons, List.not_mem_nil, or_false] at hcm
          rcases hcm with z | z | z | z <;> rw [z] <;> first | exact Nat.le_refl _ | exact Nat.le_add_right _ _
        exact I1.fpOk hle (I1.hok.fresh hle)
      refine PySem.call_dict_pairs (knd := mixKind X.prog X.w) (kvs := ks.zip its2) (ZH.arg D its.toArray its2.toArray) (I2.ok.hd hc) ⟨hz, ⟨_, _, hTO⟩, hTI, h1, h2, (show s1.heap.IsTuple a its.toArray from p1).at fun o e => hk _ o e, (show s1.heap.IsTuple b its2.toArray from p2).at fun o e => hk _ o e⟩ ⟨?_, ?_⟩ ?_ fun h2' tk hd' hk2 => ?_
      · rw [hn, List.length_zip]; omega
      · rintro i key v ⟨e1, e2⟩
        obtain ⟨k, e3, e4⟩ := k2 i key (by simpa using e1)
        refine ⟨k, ?_, e4⟩
        rw [List.getElem?_zip_eq_some]
        exact ⟨e3, by simpa using e2⟩
      · rw [hn]
        rw [List.length_map] at hz1
        exact hz1
      · have hm : ((h' : Heap).objs.size == sysModules) = false := beq_eq_false_iff_ne.mpr (Nat.ne_of_gt I2.big)
        have hlen : (mergeK [] (ks.zip ys)).length ≤ sizeLine := by
          refine Nat.le_trans (length_mergeK _ []) ?_
          rw [List.length_map] at hz1
          rw [List.length_nil, Nat.zero_add, List.length_zip]
          omega
        have nz : ∀ z, H1 z = none → True := fun _ _ => trivial
        have I3 := Inv.turnedNew (t' := tk) (ob := .dK (mergeK [] (ks.zip ys))) I2 hk2 (fun c hc => fresh5 c hc) (Nat.le_refl _) (show ObjOk X.prog X.w _ _ _ (.dK (mergeK [] (ks.zip ys))) from ⟨hlen, hm, merged [] (ks.zip its2), KV.merge (zipZ_kv rv2) .nil, hd'⟩)
        exact ⟨.ref h'.objs.size, _, I3, rfl, q1 _ (I2.hok.fresh (Nat.le_refl _))⟩
end
end L2

set_option Elab.async false
set_option linter.all false
set_option maxRecDepth 100000
set_option maxHeartbeats 4000000
/-! RX4: unknown texts in ==, in; dicts; written tuples and dicts. -/
noncomputable section
namespace RX
open PySem L2
section
variable {cl : CL}
/-! ### == of unknown texts -/
def isStrW : W → Bool
  | .str _ => true
  | _ => false
def wdEq : WD → WD → Bool
  | .lit a, .lit b => strEq a b
  | .var i, .var j => Nat.beq i j
  | _, _ => false
def wdsEq : List WD → List WD → Bool
  | [], [] => true
  | a :: l, b :: m => wdEq a b && wdsEq l m
  | _, _ => false
theorem wdsEq_ok : ∀ {l m : List WD}, wdsEq l m = true → l = m
  | [], [], _ => rfl
  | a :: l, b :: m, h => by
    obtain ⟨h1, h2⟩ := band h
    rw [wdsEq_ok h2]
    cases a <;> cases b <;> simp only [wdEq, Bool.false_eq_true] at h1
    · rw [strEq_iff.mp h1]
    · rw [Nat.eq_of_beq_eq_true h1]
  | [], _ :: _, h => ff h
  | _ :: _, [], h => ff h
theorem RelD.uniq {sv : List V} : ∀ {w : WD} {z z' : List Nat}, RelD sv w z → RelD sv w z' → z = z'
  | .lit _, _, _, h, h' => h.trans h'.symm
  | .var k, _, _, ⟨x, e, h⟩, ⟨x', e', h'⟩ => by
    rw [e] at e'
    injection e' with e'
    injection e' with e'
    rw [h, h', e']
theorem RelDs.uniq {sv : List V} : ∀ {ws : List WD} {zs zs' : List (List Nat)}, Paired (RelD sv) ws zs → Paired (RelD sv) ws zs' → zs = zs'
  | _, _, _, .nil, .nil => rfl
  | _, _, _, .cons r t, .cons r' t' => by rw [RelD.uniq r r', RelDs.uniq t t']
theorem str_ext {a b : Str} (h : a.cps.toList = b.cps.toList) : a = b := by
  cases a; cases b
  exact congrArg Str.mk (Array.ext' h)
def eqLit (neg : Bool) (x y : W) (S : SS) (k : KW) : Bool := match y with
  | .var j => splitV (fun w => eqS x w) (.var j) S fun b S' => k (.bl (xor neg b)) S'
  | y => match eqS x y with
    | some b => k (.bl (xor neg b)) S
    | none => false
def eqVr (neg : Bool) (i : Nat) (y : W) (S : SS) (k : KW) : Bool := match y with
  | .var j => match Nat.beq i j with
    | true => match getM S i with
      | some ws => allB isStrW ws && k (.bl (!neg)) S
      | none => false
    | false => false
  | y => splitV (fun w => eqS w y) (.var i) S fun b S' => k (.bl (xor neg b)) S'
def litsOf : List WD → Option (List (List Nat))
  | [] => some []
  | .lit x :: l => match litsOf l with
    | some r => some (x.cps.toList :: r)
    | none => none
  | .var _ :: _ => none
theorem litsOf_ok {sv : List V} : ∀ {ws : List WD} {zs zs' : List (List Nat)}, litsOf ws = some zs → Paired (RelD sv) ws zs' → zs = zs'
  | [], _, _, h, .nil => by cases h; rfl
  | .lit x :: l, _, _, h, .cons r t => by
    simp only [litsOf] at h
    split at h
    · rename_i rr e
      cases h
      have r' : _ = x.cps.toList := r
      rw [r', litsOf_ok e t]
    · cases h
  | .var _ :: _, _, _, h, _ => by cases h
def eqJn (neg : Bool) (us : List WD) (y : W) (S : SS) (k : KW) : Bool := match y with
  | .jn ws => wdsEq us ws && k (.bl (!neg)) S
  | .str z => match litsOf us with
    | some zs => k (.bl (xor neg (nlEq (TL.joinL [32] zs) z.cps.toList))) S
    | none => false
  | _ => false
def eqVar (neg : Bool) (x y : W) (S : SS) (k : KW) : Bool := match x with
  | .var i => eqVr neg i y S k
  | .jn us => eqJn neg us y S k
  | x => eqLit neg x y S k
section
variable {neg : Bool} {ρ : Wd} {S : SS} {H : Hp} {x y : W} {v u : V} {k : KW}
theorem eqTwo {b : Bool} {w z : W} {S' : SS} (e : eqS w z = some b) (r1 : RelW cl ρ w v) (r2 : RelW cl ρ z u) (D' : Den cl ρ S' H) (h' : k (.bl (xor neg b)) S' = true) : scal v u = true ∧ ∃ S', Den cl ρ S' H ∧ k (.bl (xor neg (decide (v = u)))) S' = true := by
  obtain ⟨h1, h2⟩ := eqS_ok r1 r2 e
  exact ⟨h1, _, D', by rw [h2]; exact h'⟩
theorem eqLit_ok (D : Den cl ρ S H) (rx : RelW cl ρ x v) (ry : RelW cl ρ y u) (h : eqLit neg x y S k = true) : scal v u = true ∧ ∃ S', Den cl ρ S' H ∧ k (.bl (xor neg (decide (v = u)))) S' = true := by
  have fin : (match eqS x y with
    | some b => k (.bl (xor neg b)) S
    | none => false) = true → scal v u = true ∧ ∃ S', Den cl ρ S' H ∧ k (.bl (xor neg (decide (v = u)))) S' = true := fun h => by
    split at h
    · rename_i b e
      exact eqTwo e rx ry D h
    · exact ff h
  cases y with
  | var j =>
    obtain ⟨b, S', h', D', w, e, r⟩ := splitV_ok (p := fun w => eqS x w) (k := fun b S' => k (.bl (xor neg b)) S') D ry h
    exact eqTwo e rx r D' h'
  | _ => exact fin h
theorem eqVr_ok {i : Nat} (D : Den cl ρ S H) (rx : RelW cl ρ (.var i) v) (ry : RelW cl ρ y u) (h : eqVr neg i y S k = true) : scal v u = true ∧ ∃ S', Den cl ρ S' H ∧ k (.bl (xor neg (decide (v = u)))) S' = true := by
  have fin : splitV (fun w => eqS w y) (.var i) S (fun b S' => k (.bl (xor neg b)) S') = true → scal v u = true ∧ ∃ S', Den cl ρ S' H ∧ k (.bl (xor neg (decide (v = u)))) S' = true := fun h => by
    obtain ⟨b, S', h', D', w, e, r⟩ := splitV_ok D rx h
    exact eqTwo e r ry D' h'
  cases y with
  | var j =>
    simp only [eqVr] at h
    split at h
    · rename_i e
      split at h
      · rename_i ws em
        obtain ⟨h1, h2⟩ := band h
        obtain ⟨v', w, a, m, rw'⟩ := D.mn.2 i ws em
        have r1 : ρ.sv[i]? = some v := rx
        have r2 : ρ.sv[j]? = some u := ry
        rw [← Nat.eq_of_beq_eq_true e, r1] at r2
        cases r2
        rw [r1] at a; cases a
        have hs := allB_mem h1 m
        cases w with
        | str z =>
          obtain rfl : v = .str z := rw'
          exact ⟨rfl, S, D, by simpa using h2⟩
        | _ => exact ff hs
      · exact ff h
    · exact ff h
  | _ => exact fin h
theorem eqJn_ok {us : List WD} (D : Den cl ρ S H) (rx : RelW cl ρ (.jn us) v) (ry : RelW cl ρ y u) (h : eqJn neg us y S k = true) : scal v u = true ∧ ∃ S', Den cl ρ S' H ∧ k (.bl (xor neg (decide (v = u)))) S' = true := by
  cases y with
  | jn ws =>
    obtain ⟨h1, h2⟩ := band h
    have e := wdsEq_ok h1
    subst e
    obtain ⟨zs, z, p, ez, rfl⟩ := rx
    obtain ⟨zs', z', p', ez', rfl⟩ := ry
    have ee := RelDs.uniq p p'
    subst ee
    have eq : z = z' := str_ext (ez.trans ez'.symm)
    subst eq
    exact ⟨rfl, S, D, by simpa using h2⟩
  | str z =>
    simp only [eqJn] at h
    split at h
    · rename_i zs e
      obtain ⟨zs', x, p, ez, rfl⟩ := rx
      obtain rfl : u = .str z := ry
      have ee := litsOf_ok e p
      subst ee
      refine ⟨rfl, S, D, ?_⟩
      have q : decide (V.str x = V.str z) = nlEq (TL.joinL [32] zs) z.cps.toList := by
        rw [← ez]
        cases hq : nlEq x.cps.toList z.cps.toList with
        | true =>
          have := str_ext (nlEq_iff.mp hq)
          subst this
          simp
        | false =>
          refine decide_eq_false fun zz => ?_
          injection zz with zz
          subst zz
          rw [nlEq_iff.mpr rfl] at hq
          cases hq
      rw [q]
      exact h
    · exact ff h
  | _ => exact ff h
theorem eqVar_ok (D : Den cl ρ S H) (rx : RelW cl ρ x v) (ry : RelW cl ρ y u) (h : eqVar neg x y S k = true) : scal v u = true ∧ ∃ S', Den cl ρ S' H ∧ k (.bl (xor neg (decide (v = u)))) S' = true := by
  cases x with
  | var i => exact eqVr_ok D rx ry h
  | jn us => exact eqJn_ok D rx ry h
  | _ => exact eqLit_ok D rx ry h
end
def gEqV (neg : Bool) : W → W → SS → KW → Bool := fun x y S k => eqVar neg x y S k
theorem sat_eqV : SatO cl (gEqV false) rEq := fun ρ S H x y v u k Q D rx ry h L => by
  obtain ⟨h1, S', D', h'⟩ := eqVar_ok D rx ry h
  exact ⟨h1, L _ _ _ _ _ h' pre_refl D' (by show V.bl _ = V.bl _; cases decide (v = u) <;> rfl)⟩
theorem sat_neV : SatO cl (gEqV true) rNe := fun ρ S H x y v u k Q D rx ry h L => by
  obtain ⟨h1, S', D', h'⟩ := eqVar_ok D rx ry h
  exact ⟨h1, L _ _ _ _ _ h' pre_refl D' (by show V.bl _ = V.bl _; cases decide (v = u) <;> rfl)⟩
/-! ### in, not in: an unknown left value; lists, tuples, written tuples -/
/-- what is known of the written tuples -/
abbrev STab := Nat → Option (List W)
structure STOk (K : PySem.W.Frag) (adr : Nat → Addr) (st : STab) : Prop where
  at_ : ∀ c xs, st c = some xs → ∀ H ρ, ∃ vs, Paired (RelWA adr ρ) xs vs ∧ SqT K H (adr c) vs
def noST : STab := fun _ => none
theorem noST_ok {K : PySem.W.Frag} {adr : Nat → Addr} : STOk K adr noST := ⟨fun _ _ h => nomatch h⟩
def seqAtS (st : STab) (S : SS) : W → Option (List W)
  | .ref p => seqAt S p
  | .cls c => st c
  | _ => none
theorem seqAtS_ok {K : PySem.W.Frag} {st : STab} (T : STOk K cl.adr st) {ρ : Wd} {S : SS} {H : Hp} (D : Den cl ρ S H) {y : W} {v : V} (r : RelW cl ρ y v) {xs : List W} (h : seqAtS st S y = some xs) : ∃ a vs, v = .ref a ∧ RelWs cl ρ xs vs ∧ (SqL K H a vs ∨ SqT K H a vs) := by
  cases y with
  | ref p =>
    obtain ⟨a, vs, h1, h2, h3⟩ := seqAt_ok (K := K) D h
    obtain ⟨a', z, rfl⟩ := r
    rw [h1] at z; cases z
    exact ⟨a, vs, rfl, h2, h3⟩
  | cls c =>
    obtain ⟨vs, h1, h2⟩ := T.at_ c xs h H ρ
    exact ⟨_, vs, r, h1, .inr h2⟩
  | _ => cases h
def flatIn (x : W) (xs : List W) : Option Bool := match flatW x with
  | true => some (inF x xs)
  | false => none
def gInS (st : STab) (neg : Bool) : W → W → SS → KW → Bool := fun x y S k => match seqAtS st S y with
  | some xs => xs.all flatW && splitV (fun w => flatIn w xs) x S fun b S' => k (.bl (xor neg b)) S'
  | none => false
theorem sat_inS {K : PySem.W.Frag} {st : STab} (T : STOk K cl.adr st) {neg : Bool} : SatO cl (gInS st neg) (rIn K neg) := fun ρ S H x y v u k Q D rx ry h L => by
  unfold gInS at h
  split at h
  · rename_i xs e
    obtain ⟨hf, h⟩ := band h
    obtain ⟨a, vs, rfl, h2, h3⟩ := seqAtS_ok T D ry e
    obtain ⟨b, S', h', D', w, eb, r⟩ := splitV_ok D rx h
    unfold flatIn at eb
    split at eb
    · rename_i fw
      cases eb
      obtain ⟨h4, h5⟩ := inF_ok r fw h2 hf
      refine ⟨a, vs, rfl, h3, flat_ok r fw, h4, L _ _ _ _ _ h' pre_refl D' ?_⟩
      rw [h5]
      show V.bl _ = V.bl _
      cases neg <;> cases inF w xs <;> rfl
    · cases eb
  · exact ff h
/-- xs[i], xs a list or a tuple, written or not -/
def gIxS (st : STab) : W → W → SS → KW → Bool := fun x y S k => match y with
  | .int i => match seqAtS st S x with
    | some xs => match getI xs i with
      | some w => k w S
      | none => false
    | none => false
  | _ => false
theorem sat_ixS {K : PySem.W.Frag} {st : STab} (T : STOk K cl.adr st) : SatO cl (gIxS st) (rIx K) := fun ρ S H x y v u k Q D rx ry h L => by
  unfold gIxS at h
  split at h
  · rename_i i
    split at h
    · rename_i xs e
      split at h
      · rename_i w e2
        obtain ⟨a, vs, rfl, h2, h3⟩ := seqAtS_ok T D rx e
        obtain rfl : u = .int i := ry
        obtain ⟨v, h4, h5⟩ := getI_ok h2 e2
        rcases h3 with h3 | h3
        · exact .inl ⟨a, vs, i, v, rfl, rfl, h3, h4, L _ _ _ _ _ h pre_refl D h5⟩
        · exact .inr (.inl ⟨a, vs, i, v, rfl, rfl, h3, h4, L _ _ _ _ _ h pre_refl D h5⟩)
      · exact ff h
    · exact ff h
  · exact ff h
/-! ### dicts -/
def keq : Key → Key → Bool
  | .inl a, .inl b => intEq a b
  | .inr a, .inr b => strEq a b
  | _, _ => false
theorem keq_iff : ∀ {a b : Key}, keq a b = true ↔ a = b
  | .inl a, .inl b => by
    show intEq a b = true ↔ _
    rw [PySem.W.Z.eqB_iff]
    exact ⟨fun h => by rw [h], fun h => by injection h⟩
  | .inr a, .inr b => by
    show strEq a b = true ↔ _
    rw [strEq_iff]
    exact ⟨fun h => by rw [h], fun h => by injection h⟩
  | .inl a, .inr b => ⟨fun h => ff h, fun h => nomatch h⟩
  | .inr a, .inl b => ⟨fun h => ff h, fun h => nomatch h⟩
def findK (k : Key) : List (Key × W) → Option W
  | [] => none
  | (j, w) :: l => match keq j k with
    | true => some w
    | false => findK k l
theorem findK_ok {ρ : Wd} {k : Key} : ∀ {kvs : List (Key × W)} {vs : List (Key × V)}, RelK cl ρ kvs vs → (∀ w, findK k kvs = some w → ∃ v, valV vs k = some v ∧ RelW cl ρ w v) ∧ (findK k kvs = none → valV vs k = none)
  | [], [], .nil => ⟨fun _ h => (nomatch h), fun _ => rfl⟩
  | (j, w) :: l, (j', v) :: m, .cons ⟨e, r⟩ t => by
    have e' : j = j' := e
    subst e'
    obtain ⟨h1, h2⟩ := findK_ok (k := k) t
    unfold findK
    split
    · rename_i q
      have := keq_iff.mp q
      refine ⟨fun w' z => ?_, fun z => nomatch z⟩
      cases z
      exact ⟨v, valV_pos (p := (j, v)) this, r⟩
    · rename_i q
      have ne : ¬ j = k := fun z => by rw [keq_iff.mpr z] at q; cases q
      rw [valV_neg (p := (j, v)) ne]
      exact ⟨h1, h2⟩
def replK (k : Key) (w : W) : List (Key × W) → List (Key × W)
  | [] => []
  | (j, x) :: l => match keq j k with
    | true => (j, w) :: replK k w l
    | false => (j, x) :: replK k w l
theorem replK_ok {ρ : Wd} {k : Key} {w : W} {v : V} (r : RelW cl ρ w v) : ∀ {kvs : List (Key × W)} {vs : List (Key × V)}, RelK cl ρ kvs vs → RelK cl ρ (replK k w kvs) (vs.map fun kv => if kv.1 = k then (kv.1, v) else kv)
  | [], [], .nil => .nil
  | (j, x) :: l, (j', y) :: m, .cons ⟨e, q⟩ t => by
    have e' : j = j' := e
    subst e'
    unfold replK
    rw [List.map_cons]
    split
    · rename_i z
      rw [if_pos (keq_iff.mp z)]
      exact .cons ⟨rfl, r⟩ (replK_ok r t)
    · rename_i z
      rw [if_neg (fun u => by rw [keq_iff.mpr u] at z; cases z)]
      exact .cons ⟨rfl, q⟩ (replK_ok r t)
def putW (kvs : List (Key × W)) (k : Key) (w : W) : List (Key × W) := match findK k kvs with
  | some _ => replK k w kvs
  | none => appR kvs [(k, w)]
theorem putW_ok {ρ : Wd} {k : Key} {w : W} {v : V} (r : RelW cl ρ w v) {kvs : List (Key × W)} {vs : List (Key × V)} (p : RelK cl ρ kvs vs) : RelK cl ρ (putW kvs k w) (putK vs k v) := by
  obtain ⟨h1, h2⟩ := findK_ok (k := k) p
  unfold putW putK
  rw [valV_any]
  split
  · rename_i x e
    obtain ⟨u, eu, _⟩ := h1 x e
    rw [eu, if_pos (by rfl)]
    exact replK_ok r p
  · rename_i e
    rw [h2 e, if_neg (by simp), appR_eq]
    exact Paired.app p (.cons ⟨rfl, r⟩ .nil)
def keyW : W → Option Key
  | .int i => some (.inl i)
  | .str x => some (.inr x)
  | _ => none
theorem keyW_ok {ρ : Wd} {w : W} {v : V} {k : Key} (r : RelW cl ρ w v) (h : keyW w = some k) : v = kV k := by
  cases w <;> simp only [keyW, Option.some.injEq, reduceCtorEq] at h
  · subst h; exact r
  · subst h; exact r
theorem RelK.len {ρ : Wd} {xs : List (Key × W)} {vs : List (Key × V)} (r : RelK cl ρ xs vs) : vs.length = xs.length := (Paired.length r).symm
def dictAt (S : SS) : W → Option (List (Key × W))
  | .ref p => match getS S p with
    | some (.dK kvs) => some kvs
    | _ => none
  | _ => none
theorem dictAt_ok {ρ : Wd} {S : SS} {H : Hp} (D : Den cl ρ S H) {x : W} {v : V} {kvs : List (Key × W)} (r : RelW cl ρ x v) (h : dictAt S x = some kvs) : ∃ p a vs, x = .ref p ∧ ρ.ad[p]? = some a ∧ v = .ref a ∧ H a = some (.dK vs) ∧ RelK cl ρ kvs vs := by
  unfold dictAt at h
  split at h
  · rename_i p
    split at h
    · rename_i ys e
      cases h
      obtain ⟨a, u, h1, h2, vs, rfl, h4⟩ := D.get e
      obtain ⟨a', z, rfl⟩ := r
      rw [h1] at z; cases z
      exact ⟨p, a, vs, rfl, h1, rfl, h2, h4⟩
    · cases h
  · cases h
/-- d[k] -/
def fDGet (fd fy : FE) : FE := fun E S k => fd E S fun d S1 => fy E S1 fun y S2 => match dictAt S2 d with
  | some kvs => match keyW y with
    | some j => match findK j kvs with
      | some w => k w S2
      | none => false
    | none => false
  | none => false
theorem sat_dget {fd fy : FE} {td ty : TE} (hd : SatE cl fd td) (hy : SatE cl fy ty) : SatE cl (fDGet fd fy) (tDGet td ty) := fun ρ E S σ H k Q re D h L =>
  hd ρ E S σ H _ _ re D h fun d S1 ρ1 dv H1 h1 p1 D1 r1 => hy ρ1 E S1 σ H1 _ _ (RelE.mono p1 re) D1 h1 fun y S2 ρ2 yv H2 h2 p2 D2 r2 => by
    split at h2
    · rename_i kvs e
      split at h2
      · rename_i j ej
        split at h2
        · rename_i w ew
          obtain ⟨p, a, vs, rfl, ha, rfl, hH, rk⟩ := dictAt_ok D2 (RelW.mono p2 r1) e
          obtain ⟨v, ev, rv⟩ := (findK_ok (k := j) rk).1 w ew
          have ey := keyW_ok r2 ej
          subst ey
          exact ⟨a, v, rfl, by rw [← ev]; exact DGet.k hH, L _ _ _ _ _ h2 (p1.trans p2) D2 rv⟩
        · exact ff h2
      · exact ff h2
    · exact ff h2
/-- d[k] = v -/
def fDPut (fd fy fv : FE) : FS := fun K E S => fv E S fun v S1 => fd E S1 fun d S2 => fy E S2 fun y S3 => match d with
  | .ref p => match getS S3 p with
    | some (.dK kvs) => match keyW y with
      | some j => Nat.blt (lenR kvs) 16777216 && K.nx E (setS S3 p (.dK (putW kvs j v)))
      | none => false
    | _ => false
  | _ => false
theorem sat_dput {fd fy fv : FE} {td ty tv : TE} (hd : SatE cl fd td) (hy : SatE cl fy ty) (hv : SatE cl fv tv) : SatS cl (fDPut fd fy fv) (sDPut td ty tv) := fun ρ E S σ H K D re Dn h L =>
  hv ρ E S σ H _ _ re Dn h fun v S1 ρ1 vv H1 h1 p1 D1 r1 => hd ρ1 E S1 σ H1 _ _ (RelE.mono p1 re) D1 h1 fun d S2 ρ2 dv H2 h2 p2 D2 r2 => hy ρ2 E S2 σ H2 _ _ (RelE.mono (p1.trans p2) re) D2 h2 fun y S3 ρ3 yv H3 h3 p3 D3 r3 => by
    split at h3
    · rename_i p
      split at h3
      · rename_i kvs e
        split at h3
        · rename_i j ej
          obtain ⟨hz, h3⟩ := band h3
          obtain ⟨a, u, h4, h5, vs, rfl, rk⟩ := D3.get e
          obtain ⟨a', z1, rfl⟩ := RelW.mono p3 r2
          rw [h4] at z1; cases z1
          have ey := keyW_ok r3 ej
          have pp := p1.trans (p2.trans p3)
          refine ⟨a, _, rfl, .inl ⟨vs, j, h5, ey, ?_, rfl⟩, L.nx _ _ _ _ _ h3 pp (D3.set (o := .dK (putW kvs j v)) h4 h5 True.intro ⟨_, rfl, putW_ok (RelW.mono (p2.trans p3) r1) rk⟩) (RelE.mono pp re)⟩
          rw [RelK.len rk, sizeLine_eq, ← lenR_eq]
          exact PySem.W.Z.blt_iff.mp hz
        · exact ff h3
      · exact ff h3
    · exact ff h3
/-- dict(d) -/
def gDictD : List W → SS → KW → Bool := fun xs S k => match xs with
  | [x] => match dictAt S x with
    | some kvs => k (.ref (lenS S)) (pushS S (.dK kvs))
    | none => false
  | _ => false
theorem sat_dictD : SatC cl gDictD (fun xs H Q => ∃ (a : Addr) (kvs : List (Key × V)), xs = [.ref a] ∧ Rd H a (.dK kvs) ∧ ∀ p, H p = none → Q (.ref p) (upd H p (.dK kvs))) := fun ρ S H xs vs k Q D r h L => by
  unfold gDictD at h
  split at h
  · rename_i x
    split at h
    · rename_i kvs e
      cases r with
      | cons r0 rr =>
        cases rr
        obtain ⟨p, a, us, rfl, ha, rfl, hH, rk⟩ := dictAt_ok D r0 e
        exact ⟨a, us, rfl, .inl hH, fun p hp => L _ _ _ _ _ h pre_app (D.new hp ⟨us, rfl, RelK.mono pre_app rk⟩) ⟨p, new_at D, rfl⟩⟩
    · exact ff h
  · exact ff h
/-- pairs into a dict: later ones win -/
def mergeW : List (Key × W) → List (Key × W) → List (Key × W)
  | kvs, [] => kvs
  | kvs, (k, w) :: l => mergeW (putW kvs k w) l
theorem mergeW_ok {ρ : Wd} : ∀ {more : List (Key × W)} {ms : List (Key × V)} {kvs : List (Key × W)} {vs : List (Key × V)}, RelK cl ρ more ms → RelK cl ρ kvs vs → RelK cl ρ (mergeW kvs more) (mergeK vs ms)
  | [], [], _, _, .nil, q => q
  | (j, w) :: l, (j', v) :: m, _, _, .cons ⟨e, r⟩ t, q => by
    have e' : j = j' := e
    subst e'
    show RelK cl ρ (mergeW (putW _ j w) l) (mergeK (putK _ j v) m)
    exact mergeW_ok t (putW_ok r q)
def pairsAt (S : SS) : List W → Option (List (Key × W))
  | [] => some []
  | .ref p :: l => match getS S p with
    | some (.tup [a, b]) => match keyW a with
      | some k => match pairsAt S l with
        | some r => some ((k, b) :: r)
        | none => none
      | none => none
    | _ => none
  | _ :: _ => none
theorem pairsAt_ok {K : PySem.W.Frag} {ρ : Wd} {S : SS} {H : Hp} (D : Den cl ρ S H) : ∀ {xs : List W} {vs : List V} {kvs : List (Key × W)}, RelWs cl ρ xs vs → pairsAt S xs = some kvs → ∃ (ps : List Addr) (us : List (Key × V)), vs = ps.map V.ref ∧ Paired (fun p kv => SqT K H p [kV kv.1, kv.2]) ps us ∧ RelK cl ρ kvs us
  | [], _, _, .nil, h => by
    cases h
    exact ⟨[], [], rfl, .nil, .nil⟩
  | x :: l, _, kvs, .cons r t, h => by
    cases x with
    | ref p =>
      simp only [pairsAt] at h
      split at h
      · rename_i a b e
        split at h
        · rename_i k ek
          split at h
          · rename_i rr er
            cases h
            obtain ⟨ps, us, e1, e2, e3⟩ := pairsAt_ok D t er
            obtain ⟨ad, u, h1, h2, vs, rfl, h4⟩ := D.get e
            obtain ⟨ad', z, rfl⟩ := r
            rw [h1] at z; cases z
            cases h4 with
            | cons ra rb =>
              cases rb with
              | cons rb rc =>
                cases rc
                have ea := keyW_ok (cl := cl) ra ek
                subst ea
                exact ⟨ad :: ps, (k, _) :: us, by rw [e1]; rfl, .cons (.inl (.inl h2)) e2, .cons ⟨rfl, rb⟩ e3⟩
          · cases h
        · cases h
      · cases h
    | _ => cases h
/-- dict(xs), xs a list of pairs -/
def gDictP : List W → SS → KW → Bool := fun xs S k => match xs with
  | [.ref p] => match getS S p with
    | some (.lst ys) => match pairsAt S ys with
      | some kvs => k (.ref (lenS S)) (pushS S (.dK (mergeW [] kvs)))
      | none => false
    | _ => false
  | _ => false
theorem sat_dictP {K : PySem.W.Frag} : SatC cl gDictP (fun xs H Q => ∃ (a : Addr) (ps : List Addr) (kvs : List (Key × V)), xs = [.ref a] ∧ SqL K H a (ps.map V.ref) ∧ Paired (fun p kv => SqT K H p [kV kv.1, kv.2]) ps kvs ∧
    ∀ p, H p = none → Q (.ref p) (upd H p (.dK (mergeK [] kvs)))) := fun ρ S H xs vs k Q D r h L => by
  unfold gDictP at h
  split at h
  · rename_i p
    split at h
    · rename_i ys e
      split at h
      · rename_i kvs ek
        obtain ⟨a, u, h1, h2, us, rfl, h4⟩ := D.get e
        cases r with
        | cons r0 rr =>
          cases rr
          obtain ⟨a', z, rfl⟩ := r0
          rw [h1] at z; cases z
          obtain ⟨ps, ks, e1, e2, e3⟩ := pairsAt_ok (K := K) D h4 ek
          subst e1
          exact ⟨a, ps, ks, rfl, .inl (.inl h2), e2, fun p hp => L _ _ _ _ _ h pre_app (D.new hp ⟨_, rfl, mergeW_ok (RelK.mono pre_app e3) .nil⟩) ⟨p, new_at D, rfl⟩⟩
      · exact ff h
    · exact ff h
  · exact ff h
def keysW : List W → Option (List Key)
  | [] => some []
  | w :: l => match keyW w with
    | some k => match keysW l with
      | some r => some (k :: r)
      | none => none
    | none => none
theorem keysW_ok {ρ : Wd} : ∀ {xs : List W} {vs : List V} {ks : List Key}, RelWs cl ρ xs vs → keysW xs = some ks → vs = ks.map kV
  | [], _, _, .nil, h => by cases h; rfl
  | w :: l, _, ks, .cons r t, h => by
    simp only [keysW] at h
    split at h
    · rename_i k ek
      split at h
      · rename_i rr er
        cases h
        rw [keyW_ok (cl := cl) r ek, keysW_ok t er]
        rfl
      · cases h
    · cases h
theorem zipK_ok {ρ : Wd} : ∀ {ks : List Key} {ys : List W} {vs : List V}, RelWs cl ρ ys vs → RelK cl ρ (ks.zip ys) (ks.zip vs)
  | [], _, _, _ => .nil
  | _ :: _, _, _, .nil => .nil
  | _ :: _, _, _, .cons r t => .cons ⟨rfl, r⟩ (zipK_ok t)
/-- a tuple's items, written or not -/
def tupAtS (st : STab) (S : SS) : W → Option (List W)
  | .ref p => match getS S p with
    | some (.tup xs) => some xs
    | _ => none
  | .cls c => st c
  | _ => none
theorem tupAtS_ok {K : PySem.W.Frag} {st : STab} (T : STOk K cl.adr st) {ρ : Wd} {S : SS} {H : Hp} (D : Den cl ρ S H) {y : W} {v : V} (r : RelW cl ρ y v) {xs : List W} (h : tupAtS st S y = some xs) : ∃ a vs, v = .ref a ∧ RelWs cl ρ xs vs ∧ SqT K H a vs := by
  cases y with
  | ref p =>
    simp only [tupAtS] at h
    split at h
    · rename_i ys e
      cases h
      obtain ⟨a, u, h1, h2, us, rfl, h4⟩ := D.get e
      obtain ⟨a', z, rfl⟩ := r
      rw [h1] at z; cases z
      exact ⟨a, us, rfl, h4, .inl (.inl h2)⟩
    · cases h
  | cls c =>
    obtain ⟨vs, h1, h2⟩ := T.at_ c xs h H ρ
    exact ⟨_, vs, r, h1, h2⟩
  | _ => cases h
/-- dict(zip(t, u)) -/
def fDictZip (st : STab) (fa : FA) : FE := fun E S k => fa E S fun ws S1 => match ws with
  | [x, y] => match tupAtS st S1 x with
    | some xs => match tupAtS st S1 y with
      | some ys => match keysW xs with
        | some ks => Nat.beq (lenR ks) (lenR ys) && k (.ref (lenS S1)) (pushS S1 (.dK (mergeW [] (ks.zip ys))))
        | none => false
      | none => false
    | none => false
  | _ => false
theorem sat_dictZip {K : PySem.W.Frag} {st : STab} (T : STOk K cl.adr st) {fa : FA} {ta : TA} (ha : SatA cl fa ta) : SatE cl (fDictZip st fa) (tDictZip K ta) := fun ρ E S σ H k Q re D h L =>
  ha ρ E S σ H _ _ re D h fun ws S1 ρ1 vs H1 h1 p1 D1 r1 => by
    split at h1
    · rename_i x y
      split at h1
      · rename_i xs ex
        split at h1
        · rename_i ys ey
          split at h1
          · rename_i ks ek
            obtain ⟨hl, h1⟩ := band h1
            cases r1 with
            | cons rx rr =>
              cases rr with
              | cons ry rr =>
                cases rr
                obtain ⟨a, vs, rfl, q1, q2⟩ := tupAtS_ok T D1 rx ex
                obtain ⟨b, us, rfl, q3, q4⟩ := tupAtS_ok T D1 ry ey
                have e := keysW_ok q1 ek
                subst e
                have hl' := Nat.eq_of_beq_eq_true hl
                rw [lenR_eq, lenR_eq] at hl'
                exact ⟨a, b, ks, us, rfl, q2, q4, by rw [hl', RelWs.len q3], fun p hp => L _ _ _ _ _ h1 (p1.trans pre_app) (D1.new hp ⟨_, rfl, mergeW_ok (RelK.mono pre_app (zipK_ok q3)) .nil⟩) ⟨p, new_at D1, rfl⟩⟩
          · exact ff h1
        · exact ff h1
      · exact ff h1
    · exact ff h1
/-! ### a written dict read -/
def fIxW (wd : Nat → Str → Option W) (fa fb : FE) : FE := fun E S k => fa E S fun x S1 => fb E S1 fun y S2 => match x, y with
  | .cls c, .str z => match wd c z with
    | some w => k w S2
    | none => false
  | _, _ => false
structure WDOk (K : PySem.W.Frag) (w : World) (adr : Nat → Addr) (wd : Nat → Str → Option W) : Prop where
  at_ : ∀ c z x, wd c z = some x → ∃ v, KDct K w (adr c) z v ∧ ∀ ρ, RelWA adr ρ x v
theorem sat_ixW {K : PySem.W.Frag} {w : World} {Wx : WX} {wd : Nat → Str → Option W} (T : WDOk K w cl.adr wd) {fa fb : FE} {ta tb : TE} (ha : SatE cl fa ta) (hb : SatE cl fb tb) : SatE cl (fIxW wd fa fb) (tIxDX K w Wx ta tb) := fun ρ E S σ H k Q re D h L =>
  ha ρ E S σ H _ _ re D h fun x S1 ρ1 v H1 h1 p1 D1 r1 => hb ρ1 E S1 σ H1 _ _ (RelE.mono p1 re) D1 h1 fun y S2 ρ2 u H2 h2 p2 D2 r2 => by
    split at h2
    · rename_i c z
      split at h2
      · rename_i w e
        obtain ⟨v', kd, rv⟩ := T.at_ c z w e
        exact ⟨_, z, r1, r2, .inl ⟨v', kd, L _ _ _ _ _ h2 (p1.trans p2) D2 (rv _)⟩⟩
      · exact ff h2
    · exact ff h2
end
end RX
end

set_option Elab.async false
set_option linter.all false
set_option maxRecDepth 100000
set_option maxHeartbeats 2000000
/-! DictEqB: two dicts compared, whatever the answer. -/
namespace L2
open PySem PySem.Spec PyProof.Rows
def hitB (ls : List (Key × V)) : List (Key × V) → Bool
  | [] => true
  | p :: r => (match valV ls p.1 with
    | some y => eqV p.2 y
    | none => false) && hitB ls r
theorem hits_flat {A : Around} {s : Shared} {kvs : List (Key × V)} {vb : List (Key × Value)} (rb : KV kvs vb) (fb : ∀ p ∈ kvs, flatV p.2 = true) : ∀ {ks : List (Key × V)} {va : List (Key × Value)}, KV ks va → (∀ p ∈ ks, flatV p.2 = true) → PySem.W.KeqHits A s vb va (hitB kvs ks)
  | [], _, .nil, _ => .nil
  | p :: ks, _, .cons (b := q) h t, f => by
    have ih := hits_flat (A := A) (s := s) rb fb t fun z hz => f z (List.mem_cons_of_mem _ hz)
    obtain ⟨k, v⟩ := p
    obtain ⟨k', u⟩ := q
    obtain ⟨h1, h2⟩ := h
    have h1' : k = k' := h1
    subst h1'
    have e := rb.val k
    unfold hitB
    dsimp only
    cases hv : valV kvs k with
    | none =>
      rw [hv] at e
      cases hu : valueAt vb k with
      | none => exact .miss hu
      | some z => rw [hu] at e; exact (show False from e).elim
    | some y =>
      rw [hv] at e
      cases hu : valueAt vb k with
      | none => rw [hu] at e; exact (show False from e).elim
      | some z =>
        rw [hu] at e
        have fy : flatV y = true := by
          unfold valV at hv
          cases hf : kvs.find? (fun kv => decide (kv.1 = k)) with
          | none => rw [hf] at hv; cases hv
          | some w =>
            rw [hf] at hv
            cases hv
            exact fb w (List.mem_of_find?_eq_some hf)
        exact .hit hu (eqAt_V h2 e (f _ List.mem_cons_self) fy) ih
section
variable {X : Cx}
def rEqDB (neg : Bool) : R2 := fun x y H Q => ∃ a b ks ls, x = .ref a ∧ y = .ref b ∧ H a = some (.dK ks) ∧ H b = some (.dK ls) ∧ ks.length = ls.length ∧ (∀ p ∈ ks, flatV p.2 = true) ∧ (∀ p ∈ ls, flatV p.2 = true) ∧ Q (.bl (xor neg (hitB ls ks))) H
theorem op_eqDB (hu : X.A.units < cLine) : OpR X (compareOp .Eq) (rEqDB false) := by
  intro pins s σ H x y v u Q I rx ry h
  obtain ⟨a, b, ks, ls, rfl, rfl, ea, eb, hlen, f1, f2, q⟩ := h
  obtain rfl : v = Value.ref a := rx
  obtain rfl : u = Value.ref b := ry
  obtain ⟨_, ya, va, ra, da⟩ := (show ObjOk X.prog X.w H s.heap a (.dK ks) from I.hok a _ ea)
  obtain ⟨_, yb, vb, rb, db⟩ := (show ObjOk X.prog X.w H s.heap b (.dK ls) from I.hok b _ eb)
  have hl : va.length = vb.length := by rw [← ra.length, ← rb.length]; exact hlen
  exact PySem.W.keq_eq (knd := mixKind X.prog X.w) ya yb da db hu (fun _ => hits_flat rb f2 ra f1) (fin_bl I q (by simp [hl]))
theorem op_neDB (hu : X.A.units < cLine) : OpR X (compareOp .NotEq) (rEqDB true) := by
  intro pins s σ H x y v u Q I rx ry h
  obtain ⟨a, b, ks, ls, rfl, rfl, ea, eb, hlen, f1, f2, q⟩ := h
  obtain rfl : v = Value.ref a := rx
  obtain rfl : u = Value.ref b := ry
  obtain ⟨_, ya, va, ra, da⟩ := (show ObjOk X.prog X.w H s.heap a (.dK ks) from I.hok a _ ea)
  obtain ⟨_, yb, vb, rb, db⟩ := (show ObjOk X.prog X.w H s.heap b (.dK ls) from I.hok b _ eb)
  have hl : va.length = vb.length := by rw [← ra.length, ← rb.length]; exact hlen
  exact PySem.W.keq_ne (knd := mixKind X.prog X.w) ya yb da db hu (fun _ => hits_flat rb f2 ra f1) (fin_bl I q (by simp [hl]))
end
end L2

set_option Elab.async false
set_option linter.all false
set_option maxRecDepth 100000
set_option maxHeartbeats 4000000
/-! RX5: == of data and of dicts, types, join, split, slices. -/
noncomputable section
namespace RX
open PySem PySem.Spec PyProof.Rows L2
section
variable {cl : CL} {K : PySem.W.Frag}
/-! ### flat values held against each other: what all of a menu say -/
def menuOf (S : SS) : W → Option (List W)
  | .var j => getM S j
  | .ref _ => none
  | .jn _ => none
  | .cls _ => none
  | .ty _ => none
  | w => some [w]
theorem menuOf_ok {ρ : Wd} {S : SS} {H : Hp} (D : Den cl ρ S H) {w : W} {v : V} {ms : List W} (h : menuOf S w = some ms) (r : RelW cl ρ w v) : ∃ m, m ∈ ms ∧ RelW cl ρ m v := by
  cases w with
  | var j =>
    obtain ⟨v', m, a, b, c⟩ := D.mn.2 j ms h
    have r' : ρ.sv[j]? = some v := r
    rw [r'] at a; cases a
    exact ⟨m, b, c⟩
  | ref _ => cases h
  | jn _ => cases h
  | cls _ => cases h
  | ty _ => cases h
  | _ => cases h; exact ⟨_, List.mem_singleton.mpr rfl, r⟩
def sameVar : W → W → Bool
  | .var i, .var j => Nat.beq i j
  | _, _ => false
def cmpF (S : SS) (x y : W) : Option Bool := match menuOf S x with
  | some ms => match menuOf S y with
    | some ns => match allB flatW ms && allB flatW ns with
      | true => match sameVar x y with
        | true => some true
        | false => match allB (fun a => allB (fun b => eqF a b) ns) ms with
          | true => some true
          | false => match allB (fun a => allB (fun b => !eqF a b) ns) ms with
            | true => some false
            | false => none
      | false => none
    | none => none
  | none => none
theorem eqV_refl : ∀ {v : V}, flatV v = true → eqV v v = true
  | .non, _ => rfl
  | .bl b, _ => by simp [eqV]
  | .int i, _ => by simp [eqV]
  | .str x, _ => by simp [eqV]
  | .byt _, h => ff h
  | .ref _, h => ff h
  | .ty _, h => ff h
  | .flt _, h => ff h
theorem cmpF_ok {ρ : Wd} {S : SS} {H : Hp} (D : Den cl ρ S H) {x y : W} {v u : V} {b : Bool} (h : cmpF S x y = some b) (rx : RelW cl ρ x v) (ry : RelW cl ρ y u) : flatV v = true ∧ flatV u = true ∧ eqV v u = b := by
  unfold cmpF at h
  split at h
  · rename_i ms em
    split at h
    · rename_i ns en
      split at h
      · rename_i hf
        obtain ⟨f1, f2⟩ := band hf
        obtain ⟨m, hm, rm⟩ := menuOf_ok D em rx
        obtain ⟨n, hn, rn⟩ := menuOf_ok D en ry
        have g1 := flat_ok rm (allB_mem f1 hm)
        have g2 := flat_ok rn (allB_mem f2 hn)
        refine ⟨g1, g2, ?_⟩
        split at h
        · rename_i hs
          cases h
          cases x <;> try exact ff hs
          cases y <;> try exact ff hs
          rename_i i j
          have r1 : ρ.sv[i]? = some v := rx
          have r2 : ρ.sv[j]? = some u := ry
          rw [← Nat.eq_of_beq_eq_true hs, r1] at r2
          cases r2
          exact eqV_refl g1
        · rw [eqF_ok rm rn (allB_mem f1 hm) (allB_mem f2 hn)]
          split at h
          · rename_i ha
            cases h
            exact allB_mem (allB_mem ha hm) hn
          · split at h
            · rename_i ha
              cases h
              have := allB_mem (allB_mem ha hm) hn
              simpa using this
            · cases h
      · cases h
    · cases h
  · cases h
/-! ### dicts -/
def cmpD (S : SS) (ls : List (Key × W)) : List (Key × W) → Option Bool
  | [] => some true
  | (k, w) :: r => match findK k ls with
    | some y => match cmpF S w y with
      | some b => match cmpD S ls r with
        | some c => some (b && c)
        | none => none
      | none => none
    | none => none
def flatM (S : SS) (w : W) : Bool := match menuOf S w with
  | some ms => allB flatW ms
  | none => false
theorem flatM_ok {ρ : Wd} {S : SS} {H : Hp} (D : Den cl ρ S H) {w : W} {v : V} (h : flatM S w = true) (r : RelW cl ρ w v) : flatV v = true := by
  unfold flatM at h
  split at h
  · rename_i ms e
    obtain ⟨m, hm, rm⟩ := menuOf_ok D e r
    exact flat_ok rm (allB_mem h hm)
  · exact ff h
theorem flatMs_ok {ρ : Wd} {S : SS} {H : Hp} (D : Den cl ρ S H) : ∀ {ks : List (Key × W)} {vs : List (Key × V)}, allB (fun w => flatM S w) (ks.map (·.2)) = true → RelK cl ρ ks vs → ∀ p ∈ vs, flatV p.2 = true
  | [], [], _, .nil => fun _ h => by cases h
  | (k, w) :: ks, (k', v) :: vs, h, .cons r t => fun p hp => by
    obtain ⟨h1, h2⟩ := band h
    rcases List.mem_cons.mp hp with e | hp
    · rw [e]; exact flatM_ok D h1 r.2
    · exact flatMs_ok D h2 t p hp
theorem cmpD_ok {ρ : Wd} {S : SS} {H : Hp} (D : Den cl ρ S H) {ls : List (Key × W)} {us : List (Key × V)} (rl : RelK cl ρ ls us) : ∀ {ks : List (Key × W)} {vs : List (Key × V)} {b : Bool}, cmpD S ls ks = some b → RelK cl ρ ks vs → hitB us vs = b
  | [], [], _, h, .nil => by cases h; rfl
  | (k, w) :: ks, (k', v) :: vs, b, h, .cons ⟨e, r⟩ t => by
    have e' : k = k' := e
    subst e'
    simp only [cmpD] at h
    split at h
    · rename_i y ey
      split at h
      · rename_i b' eb
        split at h
        · rename_i c ec
          cases h
          obtain ⟨u, eu, ru⟩ := (findK_ok (k := k) rl).1 y ey
          unfold hitB
          rw [cmpD_ok D rl ec t]
          dsimp only
          rw [eu]
          have z := (cmpF_ok D eb r ru).2.2
          show (eqV v u && c) = (b' && c)
          rw [show eqV v u = b' from z]
        · cases h
      · cases h
    · cases h
def gEqDB (neg : Bool) : W → W → SS → KW → Bool := fun x y S k => match dictAt S x with
  | some ks => match dictAt S y with
    | some ls => match cmpD S ls ks with
      | some b => (Nat.beq (lenR ks) (lenR ls) && (allB (fun w => flatM S w) (ks.map (·.2)) && allB (fun w => flatM S w) (ls.map (·.2)))) && k (.bl (xor neg b)) S
      | none => false
    | none => false
  | none => false
theorem sat_eqDB {neg : Bool} : SatO cl (gEqDB neg) (rEqDB neg) := fun ρ S H x y v u k Q D rx ry h L => by
  unfold gEqDB at h
  split at h
  · rename_i ks ek
    split at h
    · rename_i ls el
      split at h
      · rename_i b eb
        obtain ⟨h1, h2⟩ := band h
        obtain ⟨h3, h4⟩ := band h1
        obtain ⟨h5, h6⟩ := band h4
        obtain ⟨p, a, vs, rfl, ha, rfl, hH, rk⟩ := dictAt_ok D rx ek
        obtain ⟨q, a', us, rfl, ha', rfl, hH', rl⟩ := dictAt_ok D ry el
        have hl := Nat.eq_of_beq_eq_true h3
        rw [lenR_eq, lenR_eq] at hl
        refine ⟨a, a', vs, us, rfl, rfl, hH, hH', by rw [RelK.len rk, RelK.len rl, hl], flatMs_ok D h5 rk, flatMs_ok D h6 rl, L _ _ _ _ _ h2 pre_refl D ?_⟩
        rw [cmpD_ok D rl eb rk]
        rfl
      · exact ff h
    · exact ff h
  · exact ff h
/-! ### == of lists and tuples of such -/
def strOkW : W → Bool
  | .str x => PyData.strOk x
  | .non | .bl _ | .int _ => true
  | _ => false
def dvL (S : SS) (w : W) : Bool := match menuOf S w with
  | some ms => allB strOkW ms
  | none => false
def dvW : Nat → SS → W → Bool
  | 0, S, w => dvL S w
  | n + 1, S, w => match w with
    | .ref p => match getS S p with
      | some (.lst xs) => allB (dvW n S) xs
      | some (.tup xs) => allB (dvW n S) xs
      | _ => false
    | w => dvL S w
def Da (K : PySem.W.Frag) (H : Hp) (n : Nat) (v : V) (d : PyData) : Prop := Dp K H v d ∧ d.canLay0 = true ∧ d.depth ≤ n
inductive DaAll (K : PySem.W.Frag) (H : Hp) (n : Nat) : List V → List PyData → Prop
  | nil : DaAll K H n [] []
  | cons {v vs d ds} : Da K H n v d → DaAll K H n vs ds → DaAll K H n (v :: vs) (d :: ds)
theorem DaAll.out {H : Hp} {n : Nat} : ∀ {vs : List V} {ds : List PyData}, DaAll K H n vs ds → DpAll K H vs ds ∧ PyData.canLayAll0 ds = true ∧ PyData.depthAll ds ≤ n
  | _, _, .nil => ⟨.nil, by simp only [PyData.canLayAll0], by simp only [PyData.depthAll]; omega⟩
  | _, _, .cons h t => by
    obtain ⟨a, b, c⟩ := DaAll.out t
    obtain ⟨d, e, f⟩ := h
    exact ⟨.cons d a, by simp only [PyData.canLayAll0, e, b, Bool.and_self], by simp only [PyData.depthAll]; omega⟩
def dOf : V → PyData
  | .non => .none
  | .bl b => .bool b
  | .int i => .int i
  | .str x => .str x
  | _ => .none
theorem dOf_ok {H : Hp} {n : Nat} {ρ : Wd} {m : W} {v : V} (h : strOkW m = true) (r : RelW cl ρ m v) : Da K H n v (dOf v) ∧ flatV v = true := by
  cases m <;> simp only [strOkW, Bool.false_eq_true] at h <;> simp only [RelW, RelWA] at r <;> subst r
  · exact ⟨⟨.non, by simp only [dOf, PyData.canLay0], by simp only [dOf, PyData.depth]; omega⟩, rfl⟩
  · exact ⟨⟨.bl _, by simp only [dOf, PyData.canLay0], by simp only [dOf, PyData.depth]; omega⟩, rfl⟩
  · exact ⟨⟨.int _, by simp only [dOf, PyData.canLay0], by simp only [dOf, PyData.depth]; omega⟩, rfl⟩
  · exact ⟨⟨.str _, by simp only [dOf, PyData.canLay0]; exact h, by simp only [dOf, PyData.depth]; omega⟩, rfl⟩
theorem dvL_ok {H : Hp} {n : Nat} {ρ : Wd} {S : SS} (D : Den cl ρ S H) {w : W} {v : V} (h : dvL S w = true) (r : RelW cl ρ w v) : Da K H n v (dOf v) ∧ flatV v = true := by
  unfold dvL at h
  split at h
  · rename_i ms e
    obtain ⟨m, hm, rm⟩ := menuOf_ok D e r
    exact dOf_ok (allB_mem h hm) rm
  · exact ff h
theorem dvAll_ok {H : Hp} {n : Nat} {ρ : Wd} {f : W → Bool} (ih : ∀ w v, f w = true → RelW cl ρ w v → ∃ d, Da K H n v d) : ∀ {xs : List W} {vs : List V}, allB f xs = true → RelWs cl ρ xs vs → ∃ ds, DaAll K H n vs ds ∧ ds.length = xs.length
  | [], [], _, .nil => ⟨[], .nil, rfl⟩
  | x :: xs, v :: vs, h, .cons r t => by
    obtain ⟨h1, h2⟩ := band h
    obtain ⟨d, hd⟩ := ih x v h1 r
    obtain ⟨ds, hds, hl⟩ := dvAll_ok ih h2 t
    exact ⟨d :: ds, .cons hd hds, by simp [hl]⟩
theorem Da.lst {H : Hp} {n : Nat} {a : Addr} {vs : List V} {ds : List PyData} (h : H a = some (.lst vs)) (q : DaAll K H n vs ds) : Da K H (n + 1) (.ref a) (.list ds) := by
  obtain ⟨a, b, c⟩ := q.out
  exact ⟨.lst (.inl (.inl h)) a, by simp only [PyData.canLay0]; exact b, by simp only [PyData.depth]; omega⟩
theorem Da.tup {H : Hp} {n : Nat} {a : Addr} {vs : List V} {ds : List PyData} (h : H a = some (.tup vs)) (q : DaAll K H n vs ds) : Da K H (n + 1) (.ref a) (.tuple ds) := by
  obtain ⟨a, b, c⟩ := q.out
  exact ⟨.tup (.inl (.inl h)) a, by simp only [PyData.canLay0]; exact b, by simp only [PyData.depth]; omega⟩
theorem dvW_ok {H : Hp} {ρ : Wd} {S : SS} (D : Den cl ρ S H) : ∀ (n : Nat) {w : W} {v : V}, dvW n S w = true → RelW cl ρ w v → ∃ d, Da K H n v d
  | 0, w, v, h, r => ⟨_, (dvL_ok D h r).1⟩
  | n + 1, w, v, h, r => by
    cases w with
    | ref p =>
      obtain ⟨a, ea, rfl⟩ := r
      simp only [dvW] at h
      split at h
      · rename_i xs e
        obtain ⟨a', u, z1, z2, vs, rfl, z3⟩ := D.get e
        rw [ea] at z1; cases z1
        obtain ⟨ds, q, _⟩ := dvAll_ok (K := K) (fun w v h r => dvW_ok D n h r) h z3
        exact ⟨_, Da.lst z2 q⟩
      · rename_i xs e
        obtain ⟨a', u, z1, z2, vs, rfl, z3⟩ := D.get e
        rw [ea] at z1; cases z1
        obtain ⟨ds, q, _⟩ := dvAll_ok (K := K) (fun w v h r => dvW_ok D n h r) h z3
        exact ⟨_, Da.tup z2 q⟩
      · exact ff h
    | _ =>
      simp only [dvW] at h
      exact ⟨_, (dvL_ok D h r).1⟩
def cmpL (f : W → W → Option Bool) : List W → List W → Option Bool
  | [], [] => some true
  | x :: xs, y :: ys => match f x y with
    | some b => match cmpL f xs ys with
      | some c => some (b && c)
      | none => none
    | none => none
  | _, _ => none
def cmpS (n : Nat) (S : SS) (f : W → W → Option Bool) (xs ys : List W) : Option Bool := match Nat.beq (lenR xs) (lenR ys) with
  | true => cmpL f xs ys
  | false => match allB (dvW n S) xs && allB (dvW n S) ys with
    | true => some false
    | false => none
def cmpLeaf (S : SS) (x y : W) : Option Bool := match dvL S x && dvL S y with
  | true => cmpF S x y
  | false => none
inductive Sq2 where
  | ll (xs ys : List W) | tt (xs ys : List W) | lt (xs ys : List W) | no
def sq2 (S : SS) (p q : Nat) : Sq2 := match getS S p with
  | some (.lst xs) => match getS S q with
    | some (.lst ys) => .ll xs ys
    | some (.tup ys) => .lt xs ys
    | _ => .no
  | some (.tup xs) => match getS S q with
    | some (.tup ys) => .tt xs ys
    | some (.lst ys) => .lt xs ys
    | _ => .no
  | _ => .no
def cmpR (n : Nat) (S : SS) (f : W → W → Option Bool) (p q : Nat) : Option Bool := match sq2 S p q with
  | .ll xs ys => cmpS n S f xs ys
  | .tt xs ys => cmpS n S f xs ys
  | .lt xs ys => match allB (dvW n S) xs && allB (dvW n S) ys with
    | true => some false
    | false => none
  | .no => none
def cmpW : Nat → SS → W → W → Option Bool
  | 0, S, x, y => cmpLeaf S x y
  | n + 1, S, x, y => match x with
    | .ref p => match y with
      | .ref q => cmpR n S (cmpW n S) p q
      | _ => none
    | x => cmpLeaf S x y
def Cmp (K : PySem.W.Frag) (H : Hp) (n : Nat) (v u : V) (b : Bool) : Prop := ∃ d e, Da K H n v d ∧ Da K H n u e ∧ PyData.eqv d e = b
theorem eqv_flat : ∀ {v u : V}, flatV v = true → flatV u = true → PyData.eqv (dOf v) (dOf u) = eqV v u := by
  intro v u h1 h2
  cases v <;> first | exact ff h1 | skip
  all_goals cases u <;> first | exact ff h2 | simp only [dOf, PyData.eqv, eqV]
theorem cmpLeaf_ok {H : Hp} {n : Nat} {ρ : Wd} {S : SS} (D : Den cl ρ S H) {x y : W} {v u : V} {b : Bool} (h : cmpLeaf S x y = some b) (rx : RelW cl ρ x v) (ry : RelW cl ρ y u) : Cmp K H n v u b := by
  unfold cmpLeaf at h
  split at h
  · rename_i hd
    obtain ⟨h1, h2⟩ := band hd
    obtain ⟨d1, f1⟩ := dvL_ok (K := K) (n := n) D h1 rx
    obtain ⟨d2, f2⟩ := dvL_ok (K := K) (n := n) D h2 ry
    exact ⟨_, _, d1, d2, by rw [eqv_flat f1 f2]; exact (cmpF_ok D h rx ry).2.2⟩
  · cases h
theorem cmpL_ok {H : Hp} {n : Nat} {ρ : Wd} {f : W → W → Option Bool} (ih : ∀ x y v u b, f x y = some b → RelW cl ρ x v → RelW cl ρ y u → Cmp K H n v u b) : ∀ {xs ys : List W} {vs us : List V} {b : Bool}, cmpL f xs ys = some b → RelWs cl ρ xs vs → RelWs cl ρ ys us → ∃ ds es, DaAll K H n vs ds ∧ DaAll K H n us es ∧ PyData.eqvAll ds es = b
  | [], [], _, _, _, h, .nil, .nil => by cases h; exact ⟨[], [], .nil, .nil, by simp only [PyData.eqvAll]⟩
  | x :: xs, y :: ys, _, _, _, h, .cons r t, .cons r' t' => by
    simp only [cmpL] at h
    split at h
    · rename_i b e
      split at h
      · rename_i c e2
        cases h
        obtain ⟨d, e', h1, h2, h3⟩ := ih _ _ _ _ _ e r r'
        obtain ⟨ds, es, h4, h5, h6⟩ := cmpL_ok ih e2 t t'
        exact ⟨d :: ds, e' :: es, .cons h1 h4, .cons h2 h5, by simp only [PyData.eqvAll, h3, h6]⟩
      · cases h
    · cases h
  | [], _ :: _, _, _, _, h, _, _ => by cases h
  | _ :: _, [], _, _, _, h, _, _ => by cases h
theorem eqvAll_len : ∀ {ds es : List PyData}, ds.length ≠ es.length → PyData.eqvAll ds es = false
  | [], [], h => absurd rfl h
  | [], _ :: _, _ => by simp only [PyData.eqvAll]
  | _ :: _, [], _ => by simp only [PyData.eqvAll]
  | d :: ds, e :: es, h => by
    simp only [PyData.eqvAll, eqvAll_len (ds := ds) (es := es) (fun z => h (by simp [z])), Bool.and_false]
theorem cmpS_ok {H : Hp} {n : Nat} {ρ : Wd} {S : SS} (D : Den cl ρ S H) {f : W → W → Option Bool} (ih : ∀ x y v u b, f x y = some b → RelW cl ρ x v → RelW cl ρ y u → Cmp K H n v u b) {xs ys : List W} {vs us : List V} {b : Bool} (h : cmpS n S f xs ys = some b) (r : RelWs cl ρ xs vs) (r' : RelWs cl ρ ys us) : ∃ ds es, DaAll K H n vs ds ∧ DaAll K H n us es ∧ PyData.eqvAll ds es = b := by
  unfold cmpS at h
  split at h
  · exact cmpL_ok ih h r r'
  · rename_i hn
    split at h
    · rename_i hd
      cases h
      obtain ⟨h1, h2⟩ := band hd
      obtain ⟨ds, q1, l1⟩ := dvAll_ok (K := K) (fun w v h r => dvW_ok D n h r) h1 r
      obtain ⟨es, q2, l2⟩ := dvAll_ok (K := K) (fun w v h r => dvW_ok D n h r) h2 r'
      refine ⟨ds, es, q1, q2, eqvAll_len fun z => ?_⟩
      rw [l1, l2, ← lenR_eq, ← lenR_eq] at z
      have : Nat.beq (lenR xs) (lenR ys) = true := by rw [z]; exact Nat.beq_refl _
      rw [this] at hn
      cases hn
    · cases h
theorem sq2_ok {H : Hp} {ρ : Wd} {S : SS} (D : Den cl ρ S H) {p q : Nat} {a b : Addr} (ha : ρ.ad[p]? = some a) (hb : ρ.ad[q]? = some b) : match sq2 S p q with
    | .ll xs ys => ∃ vs us, H a = some (.lst vs) ∧ H b = some (.lst us) ∧ RelWs cl ρ xs vs ∧ RelWs cl ρ ys us
    | .tt xs ys => ∃ vs us, H a = some (.tup vs) ∧ H b = some (.tup us) ∧ RelWs cl ρ xs vs ∧ RelWs cl ρ ys us
    | .lt xs ys => ∃ vs us, ((H a = some (.lst vs) ∧ H b = some (.tup us)) ∨ (H a = some (.tup vs) ∧ H b = some (.lst us))) ∧ RelWs cl ρ xs vs ∧ RelWs cl ρ ys us
    | .no => True := by
  have get : ∀ {p a o}, ρ.ad[p]? = some a → getS S p = some o → ∃ u, H a = some u ∧ RelO cl ρ a o u := fun h e => D.at' _ _ _ e h
  unfold sq2
  cases e1 : getS S p with
  | none => trivial
  | some o =>
    cases o with
    | lst xs =>
      obtain ⟨u, z1, vs, rfl, z2⟩ := get ha e1
      cases e2 : getS S q with
      | none => trivial
      | some o' =>
        cases o' with
        | lst ys =>
          obtain ⟨u', y1, us, rfl, y2⟩ := get hb e2
          exact ⟨vs, us, z1, y1, z2, y2⟩
        | tup ys =>
          obtain ⟨u', y1, us, rfl, y2⟩ := get hb e2
          exact ⟨vs, us, .inl ⟨z1, y1⟩, z2, y2⟩
        | _ => trivial
    | tup xs =>
      obtain ⟨u, z1, vs, rfl, z2⟩ := get ha e1
      cases e2 : getS S q with
      | none => trivial
      | some o' =>
        cases o' with
        | lst ys =>
          obtain ⟨u', y1, us, rfl, y2⟩ := get hb e2
          exact ⟨vs, us, .inr ⟨z1, y1⟩, z2, y2⟩
        | tup ys =>
          obtain ⟨u', y1, us, rfl, y2⟩ := get hb e2
          exact ⟨vs, us, z1, y1, z2, y2⟩
        | _ => trivial
    | _ => trivial
theorem cmpW_ok {H : Hp} {ρ : Wd} {S : SS} (D : Den cl ρ S H) : ∀ (n : Nat) {x y : W} {v u : V} {b : Bool}, cmpW n S x y = some b → RelW cl ρ x v → RelW cl ρ y u → Cmp K H n v u b
  | 0, x, y, v, u, b, h, rx, ry => cmpLeaf_ok D h rx ry
  | n + 1, x, y, v, u, b, h, rx, ry => by
    cases x with
    | ref p =>
      cases y with
      | ref q =>
        simp only [cmpW, cmpR] at h
        obtain ⟨a, ea, rfl⟩ := rx
        obtain ⟨a', ea', rfl⟩ := ry
        have z := sq2_ok D ea ea'
        split at h
        · rename_i xs ys e
          rw [e] at z
          obtain ⟨vs, us, z1, z2, z3, z4⟩ := z
          obtain ⟨ds, es, q1, q2, q3⟩ := cmpS_ok D (fun x y v u b h r r' => cmpW_ok D n h r r') h z3 z4
          exact ⟨_, _, Da.lst z1 q1, Da.lst z2 q2, by simp only [PyData.eqv, q3]⟩
        · rename_i xs ys e
          rw [e] at z
          obtain ⟨vs, us, z1, z2, z3, z4⟩ := z
          obtain ⟨ds, es, q1, q2, q3⟩ := cmpS_ok D (fun x y v u b h r r' => cmpW_ok D n h r r') h z3 z4
          exact ⟨_, _, Da.tup z1 q1, Da.tup z2 q2, by simp only [PyData.eqv, q3]⟩
        · rename_i xs ys e
          rw [e] at z
          obtain ⟨vs, us, z1, z3, z4⟩ := z
          split at h
          · rename_i hd
            cases h
            obtain ⟨h1, h2⟩ := band hd
            obtain ⟨ds, q1, l1⟩ := dvAll_ok (K := K) (fun w v h r => dvW_ok D n h r) h1 z3
            obtain ⟨es, q2, l2⟩ := dvAll_ok (K := K) (fun w v h r => dvW_ok D n h r) h2 z4
            rcases z1 with ⟨z1, z2⟩ | ⟨z1, z2⟩
            · exact ⟨_, _, Da.lst z1 q1, Da.tup z2 q2, by simp only [PyData.eqv]⟩
            · exact ⟨_, _, Da.tup z1 q1, Da.lst z2 q2, by simp only [PyData.eqv]⟩
          · cases h
        · cases h
      | _ => cases h
    | _ =>
      simp only [cmpW] at h
      exact cmpLeaf_ok D h rx ry
def gEqD (neg : Bool) : W → W → SS → KW → Bool := fun x y S k => match cmpW 6 S x y with
  | some b => k (.bl (xor neg b)) S
  | none => false
theorem gEqD_ok {neg : Bool} {ρ : Wd} {S : SS} {H : Hp} {x y : W} {v u : V} {k : KW} {Q : VK} (D : Den cl ρ S H) (rx : RelW cl ρ x v) (ry : RelW cl ρ y u) (h : gEqD neg x y S k = true) (L : LinkE cl ρ k Q) :
    ∃ d e : PyData, Dp K H v d ∧ Dp K H u e ∧ SeqAt.shaped d = true ∧ SeqAt.shaped e = true ∧ Q (.bl (xor neg (PyData.eqv d e))) H := by
  unfold gEqD at h
  split at h
  · rename_i b e
    obtain ⟨d, e', ⟨a1, a2, a3⟩, ⟨b1, b2, b3⟩, c⟩ := cmpW_ok (K := K) D 6 e rx ry
    refine ⟨d, e', a1, b1, ?_, ?_, L _ _ _ _ _ h pre_refl D ?_⟩
    · unfold SeqAt.shaped; rw [a2, decide_eq_true (by omega)]; rfl
    · unfold SeqAt.shaped; rw [b2, decide_eq_true (by omega)]; rfl
    · rw [c]; rfl
  · exact ff h
theorem sat_neD : SatO cl (gEqD true) (rNeD K) := fun ρ S H x y v u k Q D rx ry h L => by
  obtain ⟨d, e, h1, h2, h3, h4, h5⟩ := gEqD_ok (K := K) D rx ry h L
  refine ⟨d, e, h1, h2, h3, h4, ?_⟩
  have z : xor true (PyData.eqv d e) = !PyData.eqv d e := by cases PyData.eqv d e <;> rfl
  rw [z] at h5
  exact h5
theorem sat_eqD : SatO cl (gEqD false) (rEqD K) := fun ρ S H x y v u k Q D rx ry h L => by
  obtain ⟨d, e, h1, h2, h3, h4, h5⟩ := gEqD_ok (K := K) D rx ry h L
  refine ⟨d, e, h1, h2, h3, h4, ?_⟩
  have z : xor false (PyData.eqv d e) = PyData.eqv d e := by cases PyData.eqv d e <;> rfl
  rw [z] at h5
  exact h5
end
end RX
end

set_option Elab.async false
set_option linter.all false
set_option maxRecDepth 100000
set_option maxHeartbeats 4000000
/-! RX6: types, join and split, slices, fields, own ==, str, properties, classmethods, calls of classes. -/
noncomputable section
namespace RX
open PySem PySem.Spec PyProof.Rows L2
/-! ### types, by number: below 10 built-in, 10 + c own -/
def tyN : Nat → String
  | 0 => "NoneType"
  | 1 => "bool"
  | 2 => "int"
  | 3 => "str"
  | 4 => "list"
  | 5 => "tuple"
  | _ => "dict"
def tyU (adr : Nat → Addr) (t : Nat) : Value := if t < 10 then .type (tyN t) else .ref (adr (t - 10))
def tyW (S : SS) : W → Option Nat
  | .non => some 0
  | .bl _ => some 1
  | .int _ => some 2
  | .str _ | .jn _ => some 3
  | .ref p => match getS S p with
    | some (.lst _) => some 4
    | some (.tup _) => some 5
    | some (.dK _) => some 6
    | some (.ins c _) => some (Nat.add 10 c)
    | _ => none
  | _ => none
structure OwnTy (K : PySem.W.Frag) (C : Addr) : Prop where
  cl : Cls K C
  ha : PySem.W.findIn K (.ref C) "__class__" = some (some (.builtin "object.__class__"))
  hn : PySem.W.specialIn K (.builtin "object.__class__") "__get__" = some (some (.builtin "getset_descriptor.__get__"))
  ht : PySem.W.takesIn K (.builtin "object.__class__") = some true
  hm : PySem.W.mroIn K C (.type "object") = some true
structure IsF (K : PySem.W.Frag) (adr : Nat → Addr) (isO : Nat → Bool) (isT : Nat → Nat → Option Bool) : Prop where
  own : ∀ c, isO c = true → OwnTy K (adr c)
  kit : ∀ t u b, isT t u = some b → PySem.W.kitOne K (tyU adr t) (tyU adr u) = some b
def okT (isO : Nat → Bool) (t : Nat) : Bool := match Nat.blt t 10 with
  | true => true
  | false => isO (Nat.sub t 10)
section
variable {cl : CL} {K : PySem.W.Frag}
theorem tyW_ok {isO : Nat → Bool} {isT : Nat → Nat → Option Bool} (T : IsF K cl.adr isO isT) {ρ : Wd} {S : SS} {H : Hp} (D : Den cl ρ S H) {w : W} {v : V} {t : Nat} (h : tyW S w = some t) (ho : okT isO t = true) (r : RelW cl ρ w v) : TyX K H v (tyU cl.adr t) := by
  cases w with
  | non => cases h; cases r; exact .base .non
  | bl b => cases h; cases r; exact .base (.bl b)
  | int i => cases h; cases r; exact .base (.int i)
  | str x => cases h; cases r; exact .base (.str x)
  | jn ws => cases h; obtain ⟨_, z, _, _, rfl⟩ := r; exact .base (.str z)
  | ref p =>
    obtain ⟨a, ea, rfl⟩ := r
    have get : ∀ {o}, getS S p = some o → ∃ u, H a = some u ∧ RelO cl ρ a o u := fun e => D.at' _ _ _ e ea
    simp only [tyW] at h
    split at h
    · rename_i xs e
      cases h
      obtain ⟨u, z2, vs, z3, z4⟩ := get e
      subst z3
      exact .base (.lst z2)
    · rename_i xs e
      cases h
      obtain ⟨u, z2, vs, z3, z4⟩ := get e
      subst z3
      exact .base (.tup z2)
    · rename_i xs e
      cases h
      obtain ⟨u, z2, vs, z3, z4⟩ := get e
      subst z3
      exact .base (.dK z2)
    · rename_i c fs e
      cases h
      obtain ⟨u, z2, dx, vs, z3, z4⟩ := get e
      subst z3
      have hc : isO c = true := by
        unfold okT at ho
        have e1 : Nat.blt (Nat.add 10 c) 10 = false := by
          cases q : Nat.blt (Nat.add 10 c) 10 with
          | false => rfl
          | true => have := PySem.W.Z.blt_iff.mp q; have e : Nat.add 10 c = 10 + c := rfl; omega
        rw [e1] at ho
        have e2 : Nat.sub (Nat.add 10 c) 10 = c := by show 10 + c - 10 = c; omega
        have ho' : isO (Nat.sub (Nat.add 10 c) 10) = true := ho
        rw [e2] at ho'
        exact ho'
      have O := T.own c hc
      have e3 : tyU cl.adr (Nat.add 10 c) = .ref (cl.adr c) := by
        unfold tyU
        have e2 : Nat.add 10 c - 10 = c := by show 10 + c - 10 = c; omega
        rw [if_neg (by show ¬ 10 + c < 10; omega), e2]
      rw [e3]
      exact .base (.ins z2 O.cl O.ha O.hn O.ht O.hm)
    · cases h
  | _ => cases h
def isTW (isO : Nat → Bool) (isT : Nat → Nat → Option Bool) (u : Nat) (S : SS) (w : W) : Option Bool := match tyW S w with
  | some t => match okT isO t with
    | true => isT t u
    | false => none
  | none => none
/-- isinstance(e, C), C the type number u -/
def fIsi (isO : Nat → Bool) (isT : Nat → Nat → Option Bool) (u : Nat) (fe : FE) : FE := fun E S k => fe E S fun x S1 => splitV (isTW isO isT u S1) x S1 fun b S' => k (.bl b) S'
theorem sat_isi {isO : Nat → Bool} {isT : Nat → Nat → Option Bool} (T : IsF K cl.adr isO isT) {u : Nat} {uv : V} (hu : ClsV uv (tyU cl.adr u)) {fe : FE} {te : TE} (he : SatE cl fe te) : SatE cl (fIsi isO isT u fe) (tCB (rIsi K) (tCons te (tCons (tC uv) tNil))) := fun ρ E S σ H k Q re D h L =>
  he ρ E S σ H _ _ re D h fun x S1 ρ1 v H1 h1 p1 D1 r1 => by
    obtain ⟨b, S', h', D', w, e, r⟩ := splitV_ok D1 r1 h1
    unfold isTW at e
    split at e
    · rename_i t et
      split at e
      · rename_i ho
        exact ⟨v, uv, _, _, b, rfl, hu, tyW_ok T D1 et ho r, T.kit _ _ _ e, L _ _ _ _ _ h' p1 D' rfl⟩
      · cases e
    · cases e
/-! ### ' '.join(e), e.split(' ') -/
def memN (n : Nat) : List Nat → Bool
  | [] => false
  | a :: l => Nat.beq a n || memN n l
theorem memN_iff {n : Nat} : ∀ {l : List Nat}, memN n l = true ↔ n ∈ l
  | [] => by simp [memN]
  | a :: l => by
    show (Nat.beq a n || memN n l) = true ↔ _
    rw [Bool.or_eq_true, memN_iff, List.mem_cons]
    constructor
    · rintro (h | h)
      · exact .inl (Nat.eq_of_beq_eq_true h).symm
      · exact .inr h
    · rintro (h | h)
      · exact .inl (by rw [h]; exact Nat.beq_refl _)
      · exact .inr h
def wordOk (x : Str) : Bool := !memN 32 x.cps.toList && Nat.blt (lenR x.cps.toList) 1000
def wordOkW : W → Bool
  | .str x => wordOk x
  | _ => false
def wdOk (S : SS) : WD → Bool
  | .lit x => wordOk x
  | .var j => match getM S j with
    | some ws => allB wordOkW ws
    | none => false
def wordOf (S : SS) : W → Option WD
  | .str x => match wdOk S (.lit x) with
    | true => some (.lit x)
    | false => none
  | .var j => match wdOk S (.var j) with
    | true => some (.var j)
    | false => none
  | _ => none
def wordsOf (S : SS) : List W → Option (List WD)
  | [] => some []
  | w :: l => match wordOf S w with
    | some d => match wordsOf S l with
      | some ds => some (d :: ds)
      | none => none
    | none => none
theorem wordOk_ok {x : Str} (h : wordOk x = true) : 32 ∉ x.cps.toList ∧ x.length ≤ 1000 := by
  obtain ⟨h1, h2⟩ := band h
  have := PySem.W.Z.blt_iff.mp h2
  rw [lenR_eq] at this
  refine ⟨fun q => (by rw [memN_iff.mpr q] at h1; cases h1), ?_⟩
  have e : x.cps.toList.length = x.length := Array.length_toList
  omega
theorem wdOk_ok {ρ : Wd} {S : SS} {H : Hp} (D : Den cl ρ S H) {d : WD} (h : wdOk S d = true) : ∃ y : Str, RelD ρ.sv d y.cps.toList ∧ 32 ∉ y.cps.toList ∧ y.length ≤ 1000 ∧ ∀ z, RelD ρ.sv d z → z = y.cps.toList := by
  cases d with
  | lit x => exact ⟨x, rfl, (wordOk_ok h).1, (wordOk_ok h).2, fun z e => e⟩
  | var j =>
    simp only [wdOk] at h
    split at h
    · rename_i ws e
      obtain ⟨v, m, a, b, c⟩ := D.mn.2 j ws e
      have hm := allB_mem h b
      cases m with
      | str x =>
        have c' : v = .str x := c
        subst c'
        exact ⟨x, ⟨x, a, rfl⟩, (wordOk_ok hm).1, (wordOk_ok hm).2, fun z r => RelD.uniq r ⟨x, a, rfl⟩⟩
      | _ => exact ff hm
    · exact ff h
theorem wordOf_ok {ρ : Wd} {S : SS} {H : Hp} (D : Den cl ρ S H) {w : W} {v : V} {d : WD} (h : wordOf S w = some d) (r : RelW cl ρ w v) : wdOk S d = true ∧ ∃ y : Str, v = .str y ∧ RelD ρ.sv d y.cps.toList := by
  unfold wordOf at h
  split at h
  · rename_i x
    split at h
    · rename_i e
      cases h
      exact ⟨e, x, r, rfl⟩
    · cases h
  · rename_i j
    split at h
    · rename_i e
      cases h
      refine ⟨e, ?_⟩
      obtain ⟨y, q, _⟩ := wdOk_ok D e
      obtain ⟨x, e1, e2⟩ := q
      have r' : ρ.sv[j]? = some v := r
      rw [e1] at r'; cases r'
      exact ⟨x, rfl, ⟨x, e1, rfl⟩⟩
    · cases h
  · cases h
theorem wordsOf_ok {ρ : Wd} {S : SS} {H : Hp} (D : Den cl ρ S H) : ∀ {ws : List W} {vs : List V} {ds : List WD}, wordsOf S ws = some ds → RelWs cl ρ ws vs → (∀ d ∈ ds, wdOk S d = true) ∧ ∃ ys : List Str, vs = ys.map V.str ∧ Paired (RelD ρ.sv) ds (ys.map fun y => y.cps.toList)
  | [], _, _, h, .nil => by cases h; exact ⟨by simp, [], rfl, .nil⟩
  | w :: l, _, _, h, .cons r t => by
    unfold wordsOf at h
    split at h
    · rename_i d ed
      split at h
      · rename_i ds eds
        cases h
        obtain ⟨a1, y, rfl, a2⟩ := wordOf_ok D ed r
        obtain ⟨b1, ys, rfl, b2⟩ := wordsOf_ok D eds t
        refine ⟨fun d' hd => ?_, y :: ys, rfl, .cons a2 b2⟩
        rcases List.mem_cons.mp hd with e | e
        · rw [e]; exact a1
        · exact b1 _ e
      · cases h
    · cases h
def fJoin (f : FE) : FE := fun E S k => f E S fun w S1 => match w with
  | .ref p => match seqAt S1 p with
    | some xs => match wordsOf S1 xs with
      | some ds => Nat.blt (lenR ds) 1000 && k (.jn ds) S1
      | none => false
    | none => false
  | _ => false
theorem join_size {ρ : Wd} {S : SS} {H : Hp} (D : Den cl ρ S H) : ∀ {ds : List WD} {ys : List Str}, (∀ d ∈ ds, wdOk S d = true) → Paired (RelD ρ.sv) ds (ys.map fun y => y.cps.toList) → ys.length = ds.length ∧ (ys.map (·.length)).sum ≤ ds.length * 1000 ∧ ∀ y ∈ ys, 32 ∉ y.cps.toList
  | [], [], _, .nil => ⟨rfl, by simp, fun _ h => by cases h⟩
  | d :: ds, y :: ys, h, .cons a t => by
    obtain ⟨h1, h2, h4⟩ := join_size D (fun d hd => h d (List.mem_cons_of_mem _ hd)) t
    obtain ⟨y', q1, q2, q3, q4⟩ := wdOk_ok D (h d (List.mem_cons_self ..))
    have e := str_ext (q4 _ a)
    subst e
    refine ⟨by simp [h1], ?_, fun z hz => ?_⟩
    · simp only [List.map_cons, List.sum_cons, List.length_cons]
      omega
    · rcases List.mem_cons.mp hz with e | hz
      · rw [e]; exact q2
      · exact h4 z hz
theorem sat_join {f : FE} {t : TE} (hf : SatE cl f t) : SatE cl (fJoin f) (tM1 (fun x xs H Q => ∃ a p, ∃ ys : List Str, x = .str a ∧ xs = [.ref p] ∧ (SqL K H p (ys.map V.str) ∨ SqT K H p (ys.map V.str)) ∧
    (ys.map (·.length)).sum + ys.length * a.length ≤ 16777216 ∧ Q (.str (Txt.join a ys)) H) (tC (.str " ")) t) := fun ρ E S σ H k Q re D h L => by
  refine ⟨⟨_, rfl⟩, hf ρ E S σ H _ _ re D h fun w S1 ρ1 v H1 h1 p1 D1 r1 => ?_⟩
  cases w with
  | ref p =>
    simp only at h1
    split at h1
    · rename_i xs e
      split at h1
      · rename_i ds ed
        obtain ⟨h2, h3⟩ := band h1
        obtain ⟨a, vs, y1, y2, y3⟩ := seqAt_ok (K := K) D1 e
        obtain ⟨a', z1, rfl⟩ := r1
        rw [y1] at z1; cases z1
        obtain ⟨b1, ys, rfl, b2⟩ := wordsOf_ok D1 ed y2
        obtain ⟨c1, c2, _⟩ := join_size D1 b1 b2
        have h2' := PySem.W.Z.blt_iff.mp h2
        rw [lenR_eq] at h2'
        refine ⟨_, a, ys, rfl, rfl, y3, ?_, L _ _ _ _ _ h3 p1 D1 ⟨_, _, b2, ?_, rfl⟩⟩
        · have : (Str.ofString " ").length = 1 := by decide +kernel
          show (ys.map (·.length)).sum + ys.length * (Str.ofString " ").length ≤ 16777216
          rw [this, c1]
          omega
        · rw [TL.join_eq]
          exact TL.tl_join (Str.ofString " ") ys
      · exact ff h1
    · exact ff h1
  | _ => exact ff h1
def wOf : WD → W
  | .lit x => .str x
  | .var j => .var j
def allWd (S : SS) : List WD → Bool
  | [] => true
  | d :: l => wdOk S d && allWd S l
theorem allWd_ok {S : SS} : ∀ {ds : List WD}, allWd S ds = true → ∀ d ∈ ds, wdOk S d = true
  | d :: ds, h, d', hd => by
    obtain ⟨h1, h2⟩ := band h
    rcases List.mem_cons.mp hd with e | hd
    · rw [e]; exact h1
    · exact allWd_ok h2 d' hd
def fSplit (f : FE) : FE := fun E S k => f E S fun w S1 => match w with
  | .jn ds => match ds with
    | [] => false
    | d :: l => (allWd S1 (d :: l) && Nat.blt (lenR (d :: l)) 1000) && k (.ref (lenS S1)) (pushS S1 (.lst ((d :: l).map wOf)))
  | _ => false
theorem split_rel {ρ : Wd} {S : SS} {H : Hp} (D : Den cl ρ S H) : ∀ {ds : List WD} {zs : List (List Nat)}, allWd S ds = true → Paired (RelD ρ.sv) ds zs → ∃ ys : List Str, zs = ys.map (fun y => y.cps.toList) ∧ RelWs cl ρ (ds.map wOf) (ys.map V.str)
  | [], _, _, .nil => ⟨[], rfl, .nil⟩
  | d :: ds, _, h, .cons r t => by
    obtain ⟨h1, h2⟩ := band h
    obtain ⟨ys, e, q⟩ := split_rel D h2 t
    obtain ⟨y, q1, q2, q3, q4⟩ := wdOk_ok D h1
    refine ⟨y :: ys, by rw [q4 _ r, e]; rfl, .cons ?_ q⟩
    cases d with
    | lit x => have := str_ext q1; subst this; rfl
    | var j =>
      obtain ⟨x, e1, e2⟩ := q1
      have := str_ext e2
      subst this
      exact e1
theorem sat_split {f : FE} {t : TE} (hf : SatE cl f t) : SatE cl (fSplit f) (tM1 (fun x xs H Q => ∃ a b, x = .str a ∧ xs = [.str b] ∧ (b.length == 0) = false ∧ a.length + 2 ≤ sizeLine ∧ rNewStrs (Txt.split a b) H Q) t (tC (.str " "))) := fun ρ E S σ H k Q re D h L =>
  hf ρ E S σ H _ _ re D h fun w S1 ρ1 v H1 h1 p1 D1 r1 => by
    cases w with
    | jn ds =>
      simp only at h1
      split at h1
      · exact ff h1
      · rename_i d l
        obtain ⟨h2, h3⟩ := band h1
        obtain ⟨h4, h5⟩ := band h2
        obtain ⟨zs, z, p, ez, rfl⟩ := r1
        obtain ⟨ys, e, q⟩ := split_rel D1 h4 p
        subst e
        obtain ⟨c1, c2, c3⟩ := join_size D1 (allWd_ok h4) p
        have hl := PySem.W.Z.blt_iff.mp h5
        rw [lenR_eq] at hl
        have e1 : (Str.ofString " ").length = 1 := by decide +kernel
        have hz : z = Txt.join (Str.ofString " ") ys := by
          refine str_ext ?_
          rw [ez, TL.join_eq]
          exact (TL.tl_join (Str.ofString " ") ys).symm
        have hne : ys ≠ [] := fun z => by rw [z] at c1; simp at c1
        have hs : Txt.split z (Str.ofString " ") = ys := by
          rw [hz]
          exact TL.split_join (s := 32) (S := []) (by decide +kernel) (by decide +kernel) hne c3
        have hlen : z.length + 2 ≤ sizeLine := by
          have := StrLaws.join_length_le (Str.ofString " ") ys
          rw [← TL.join_eq, ← hz, e1, c1] at this
          rw [sizeLine_eq]
          omega
        refine ⟨⟨z, rfl⟩, z, _, rfl, rfl, by decide +kernel, hlen, ?_⟩
        rw [show Txt.split z " " = ys from hs]
        exact fun p hp => L _ _ _ _ _ h3 (p1.trans pre_app) (D1.new hp ⟨_, rfl, RelWs.mono pre_app q⟩) ⟨p, new_at D1, rfl⟩
    | _ => exact ff h1
/-! ### slices of lists -/
abbrev FO := EE → SS → (Option Int → SS → Bool) → Bool
def SatP (cl : CL) (f : FO) (t : TO) : Prop := ∀ ρ E S σ H k (Q : Option Int → Hp → Prop), RelE cl ρ E σ → Den cl ρ S H → f E S k = true → LinkV cl ρ (fun _ a b => a = b) k Q → t σ H Q
def fNoPart : FO := fun _ S k => k none S
theorem sat_noPart : SatP cl fNoPart tNoPart := fun ρ E S σ H k Q re D h L => L _ _ _ _ _ h pre_refl D rfl
def fPart (f : FE) : FO := fun E S k => f E S fun w S1 => match w with
  | .int i => k (some i) S1
  | _ => false
theorem sat_part {f : FE} {t : TE} (hf : SatE cl f t) : SatP cl (fPart f) (tPart t) := fun ρ E S σ H k Q re D h L =>
  hf ρ E S σ H _ _ re D h fun w S1 ρ1 v H1 h1 p1 D1 r1 => by
    cases w with
    | int i => cases r1; exact ⟨i, rfl, L _ _ _ _ _ h1 p1 D1 rfl⟩
    | _ => exact ff h1
def cutW (xs : List W) (lo hi : Option Int) : List W := (xs.drop (HT.sIx xs.length 0 lo)).take (HT.sIx xs.length xs.length hi - HT.sIx xs.length 0 lo)
theorem Paired.drop {α β : Type} {R : α → β → Prop} : ∀ {l : List α} {m : List β} (n : Nat), Paired R l m → Paired R (l.drop n) (m.drop n)
  | _, _, 0, h => h
  | _, _, _ + 1, .nil => .nil
  | _, _, n + 1, .cons _ t => Paired.drop n t
theorem Paired.take {α β : Type} {R : α → β → Prop} : ∀ {l : List α} {m : List β} (n : Nat), Paired R l m → Paired R (l.take n) (m.take n)
  | _, _, 0, _ => .nil
  | _, _, _ + 1, .nil => .nil
  | _, _, n + 1, .cons r t => .cons r (Paired.take n t)
def fSl (f : FE) (fl fh : FO) : FE := fun E S k => f E S fun w S1 => fl E S1 fun lo S2 => fh E S2 fun hi S3 => match w with
  | .ref p => match getS S3 p with
    | some (.lst xs) => k (.ref (lenS S3)) (pushS S3 (.lst (cutW xs lo hi)))
    | _ => false
  | _ => false
theorem sat_sl {f : FE} {fl fh : FO} {t : TE} {tl th : TO} (hf : SatE cl f t) (hl : SatP cl fl tl) (hh : SatP cl fh th) : SatE cl (fSl f fl fh) (tSl (rSlL K) t tl th) := fun ρ E S σ H k Q re D h L =>
  hf ρ E S σ H _ _ re D h fun w S1 ρ1 v H1 h1 p1 D1 r1 => hl ρ1 E S1 σ H1 _ _ (RelE.mono p1 re) D1 h1 fun lo S2 ρ2 lo' H2 h2 p2 D2 e2 => hh ρ2 E S2 σ H2 _ _ (RelE.mono (p1.trans p2) re) D2 h2 fun hi S3 ρ3 hi' H3 h3 p3 D3 e3 => by
    subst e2 e3
    cases w with
    | ref p =>
      simp only at h3
      split at h3
      · rename_i xs e
        obtain ⟨a, ea, rfl⟩ := RelW.mono (p2.trans p3) r1
        obtain ⟨u, z2, vs, z3, z4⟩ := D3.at' _ _ _ e ea
        subst z3
        refine ⟨a, vs, rfl, SqL.of z2, fun q hq => L _ _ _ _ _ h3 (p1.trans (p2.trans (p3.trans pre_app))) (D3.new hq ⟨_, rfl, ?_⟩) ⟨q, new_at D3, rfl⟩⟩
        unfold cutV cutW
        rw [RelWs.len z4]
        exact RelWs.mono pre_app (Paired.take _ (Paired.drop _ z4))
      · exact ff h3
    | _ => exact ff h3
def gListOf : List W → SS → KW → Bool := fun xs S k => match xs with
  | [.ref p] => match seqAt S p with
    | some ys => k (.ref (lenS S)) (pushS S (.lst ys))
    | none => false
  | _ => false
theorem sat_list_of : SatC cl gListOf (fun xs H Q => ∃ p ys, xs = [.ref p] ∧ (SqL K H p ys ∨ SqT K H p ys) ∧ ∀ l, H l = none → Q (.ref l) (upd H l (.lst ys))) := fun ρ S H xs vs k Q D r h L => by
  unfold gListOf at h
  split at h
  · rename_i p
    cases r with
    | cons r0 rr =>
      cases rr
      obtain ⟨a, ea, rfl⟩ := r0
      split at h
      · rename_i ys e
        obtain ⟨a', us, h1, h2, h3⟩ := seqAt_ok (K := K) D e
        rw [ea] at h1; cases h1
        exact ⟨a, us, rfl, h3, fun l hl => L _ _ _ _ _ h pre_app (D.new hl ⟨us, rfl, RelWs.mono pre_app h2⟩) ⟨l, new_at D, rfl⟩⟩
      · exact ff h
  · exact ff h
def gTupOf : List W → SS → KW → Bool := fun xs S k => match xs with
  | [.ref p] => match getS S p with
    | some (.lst ys) => k (.ref (lenS S)) (pushS S (.tup ys))
    | _ => false
  | _ => false
theorem sat_tuple_of {R : V → Hp → VK → Prop} : SatC cl gTupOf (fun xs H Q => ∃ p ys, xs = [.ref p] ∧ ((SqL K H p ys ∧ ∀ l, H l = none → Q (.ref l) (upd H l (.tup ys))) ∨ (SqT K H p ys ∧ Q (.ref p) H))) := fun ρ S H xs vs k Q D r h L => by
  unfold gTupOf at h
  split at h
  · rename_i p
    cases r with
    | cons r0 rr =>
      cases rr
      obtain ⟨a, ea, rfl⟩ := r0
      split at h
      · rename_i ys e
        obtain ⟨u, h2, us, rfl, h3⟩ := D.at' _ _ _ e ea
        exact ⟨a, us, rfl, .inl ⟨SqL.of h2, fun l hl => L _ _ _ _ _ h pre_app (D.new hl ⟨us, rfl, RelWs.mono pre_app h3⟩) ⟨l, new_at D, rfl⟩⟩⟩
      · exact ff h
  · exact ff h
/-! ### attributes -/
def lookS (f : Str) : List (Str × W) → Option W
  | [] => none
  | (g, w) :: l => match strEq f g with
    | true => some w
    | false => lookS f l
theorem lookS_ok {ρ : Wd} {f : Str} : ∀ {fs : List (Str × W)} {vs : List (Str × V)} {w : W}, RelF cl ρ fs vs → lookS f fs = some w → ∃ v, vs.lookup f = some v ∧ RelW cl ρ w v
  | [], _, _, _, h => by cases h
  | (g, w') :: l, (g', v') :: m, w, .cons ⟨e, r⟩ t, h => by
    simp only at e r
    subst e
    unfold lookS at h
    split at h
    · rename_i q
      cases h
      have := strEq_iff.mp q
      subst this
      exact ⟨v', by simp [List.lookup], r⟩
    · rename_i q
      have ne : (f == g) = false := by rw [beq_str]; exact q
      simp only [List.lookup, ne]
      exact lookS_ok t h
structure InsF (K : PySem.W.Frag) (adr : Nat → Addr) (isI : Nat → Bool) (lacks : Nat → Str → Bool) : Prop where
  cls : ∀ c, isI c = true → Cls K (adr c)
  no : ∀ c f, lacks c f = true → NoAttr K (adr c) f
variable {isI : Nat → Bool} {lacks : Nat → Str → Bool}
def fFld (isI : Nat → Bool) (lacks : Nat → Str → Bool) (f : Str) (fe : FE) : FE := fun E S k => fe E S fun x S1 => match x with
  | .ref p => match getS S1 p with
    | some (.ins c fs) => match lookS f fs with
      | some w => (isI c && lacks c f) && k w S1
      | none => false
    | _ => false
  | _ => false
theorem sat_fld (T : InsF K cl.adr isI lacks) {f : Str} {fe : FE} {te : TE} (he : SatE cl fe te) : SatE cl (fFld isI lacks f fe) (tFld K te f) := fun ρ E S σ H k Q re D h L =>
  he ρ E S σ H _ _ re D h fun x S1 ρ1 xv H1 h1 p1 D1 r1 => by
    cases x with
    | ref p =>
      obtain ⟨ad, ea, rfl⟩ := r1
      simp only at h1
      split at h1
      · rename_i c fs e
        split at h1
        · rename_i w e3
          obtain ⟨h1a, h1⟩ := band h1
          rw [Bool.and_eq_true] at h1a
          obtain ⟨u, z2, dx, vs, z3, z4⟩ := D1.at' _ _ _ e ea
          subst z3
          obtain ⟨v, y1, y2⟩ := lookS_ok z4 e3
          exact ⟨ad, cl.adr c, dx, vs, v, rfl, z2, T.cls c h1a.1, T.no c f h1a.2, y1, L _ _ _ _ _ h1 p1 D1 y2⟩
        · exact ff h1
      · exact ff h1
    | _ => exact ff h1
def putS (f : Str) (w : W) : List (Str × W) → List (Str × W)
  | [] => [(f, w)]
  | (g, x) :: r => match strEq g f with
    | true => (g, w) :: r
    | false => (g, x) :: putS f w r
theorem putS_ok {ρ : Wd} {f : Str} {w : W} {v : V} (r : RelW cl ρ w v) : ∀ {fs : List (Str × W)} {vs : List (Str × V)}, RelF cl ρ fs vs → RelF cl ρ (putS f w fs) (putF f v vs)
  | [], _, .nil => .cons ⟨rfl, r⟩ .nil
  | (g, x) :: fs, (g', y) :: vs, .cons ⟨e, rx⟩ t => by
    simp only at e rx
    subst e
    unfold putS
    show RelF cl ρ _ (if g = f then (g, v) :: vs else (g, y) :: putF f v vs)
    by_cases h : g = f
    · rw [if_pos h]
      have e : strEq g f = true := strEq_iff.mpr h
      simp only [e]
      exact .cons ⟨rfl, r⟩ t
    · rw [if_neg h]
      have e : strEq g f = false := by
        cases q : strEq g f with
        | false => rfl
        | true => exact absurd (strEq_iff.mp q) h
      simp only [e]
      exact .cons ⟨rfl, rx⟩ (putS_ok r t)
def fSetF (isI : Nat → Bool) (lacks : Nat → Str → Bool) (f : Str) (fo fe : FE) : FS := fun k E S => fe E S fun y S1 => fo E S1 fun x S2 => match x with
  | .ref p => match getS S2 p with
    | some (.ins c fs) => ((isI c && lacks c f) && Nat.ble (lenR fs) 900) && k.nx E (setS S2 p (.ins c (putS f y fs)))
    | _ => false
  | _ => false
theorem sat_setf (T : InsF K cl.adr isI lacks) {f : Str} {fo fe : FE} {to te : TE} (ho : SatE cl fo to) (he : SatE cl fe te) : SatS cl (fSetF isI lacks f fo fe) (sFld K to te f) := fun ρ E S σ H k D re Dn h L =>
  he ρ E S σ H _ _ re Dn h fun y S1 ρ1 yv H1 h1 p1 D1 r1 => ho ρ1 E S1 σ H1 _ _ (RelE.mono p1 re) D1 h1 fun x S2 ρ2 xv H2 h2 p2 D2 r2 => by
    cases x with
    | ref p =>
      obtain ⟨ad, ea, rfl⟩ := r2
      simp only at h2
      split at h2
      · rename_i c fs e
        obtain ⟨h3, h4⟩ := band h2
        obtain ⟨h5, h6⟩ := band h3
        rw [Bool.and_eq_true] at h5
        obtain ⟨u, z2, dx, vs, z3, z4⟩ := D2.at' _ _ _ e ea
        subst z3
        have hl := PySem.W.Z.ble_iff.mp h6
        rw [lenR_eq] at hl
        have hlen : vs.length = fs.length := (Paired.length z4).symm
        refine ⟨ad, cl.adr c, dx, vs, rfl, z2, T.cls c h5.1, T.no c f h5.2, by rw [hlen]; omega, ?_⟩
        exact L.nx _ _ _ _ _ h4 (p1.trans p2) (D2.set (o := .ins c (putS f y fs)) ea z2 True.intro ⟨dx, _, rfl, putS_ok (RelW.mono p2 r1) z4⟩) (RelE.mono (p1.trans p2) re)
      · exact ff h2
    | _ => exact ff h2
/-! ### own ==, != ; str -/
structure EqF (K : PySem.W.Frag) (adr : Nat → Addr) (fa : Addr) (isE : Nat → Bool) (nfT : Nat → Nat → Bool) : Prop where
  eq : ∀ c, isE c = true → EqC K (adr c) fa
  nf : ∀ c t, nfT c t = true → PySem.W.notFirst K (adr c) (tyU adr t) = true
def gEqO (isO isE : Nat → Bool) (nfT : Nat → Nat → Bool) (neg : Bool) (nl : Nat) (f : KX → FS) : W → W → SS → KW → Bool := fun x y S k => match x with
  | .ref p => match getS S p with
    | some (.ins c _) => match tyW S y with
      | some t => (isE c && (okT isO t && nfT c t)) && f noX (endK fun w S1 => match w with
        | .bl b => k (.bl (xor neg b)) S1
        | _ => false) ([x, y].map some ++ List.replicate nl none) S
      | none => false
    | _ => false
  | _ => false
theorem sat_eqO {isO isE : Nat → Bool} {isT : Nat → Nat → Option Bool} {nfT : Nat → Nat → Bool} {fa : Addr} {neg : Bool} {nl : Nat} {f : KX → FS} {E0' : XK} (T : IsF K cl.adr isO isT) (TE : EqF K cl.adr fa isE nfT) :
    SatO cl (gEqO isO isE nfT neg nl f) (rEqO K fa (spX cl.adr cl.tb 2 nl f) E0' neg) := fun ρ S H x y v u k Q D rx ry h L => by
  unfold gEqO at h
  split at h
  · rename_i p
    split at h
    · rename_i c fs e
      split at h
      · rename_i t et
        obtain ⟨h1, h2⟩ := band h
        obtain ⟨h3, h4⟩ := band h1
        obtain ⟨h5, h6⟩ := band h4
        have rx' := rx
        obtain ⟨a, ea, rfl⟩ := rx
        obtain ⟨o, z2, dx, vs, z3, z4⟩ := D.at' _ _ _ e ea
        subst z3
        refine ⟨a, _, dx, vs, _, rfl, z2, TE.eq c h3, tyW_ok T D et h5 ry, TE.nf c t h6, spX_of (x := noX) D rfl (.cons rx' (.cons ry .nil)) h2 ?_ linkX_no⟩
        intro w S' ρ' v' H' hk pp D' rw'
        simp only at hk
        split at hk
        · rename_i b
          exact ⟨b, rw', L _ _ _ _ _ hk pp D' rfl⟩
        · exact ff hk
      · exact ff h
    · exact ff h
  · exact ff h
def isTx : W → Bool
  | .jn _ | .str _ => true
  | _ => false
def gStrO (isS : Nat → Bool) (nl : Nat) (f : KX → FS) : List W → SS → KW → Bool := fun ws S k => match ws with
  | [.ref p] => match getS S p with
    | some (.ins c _) => isS c && f noX (endK fun w S1 => isTx w && k w S1) ([.ref p].map some ++ List.replicate nl none) S
    | _ => false
  | _ => false
theorem sat_strO {isS : Nat → Bool} {fa : Addr} {nl : Nat} {f : KX → FS} {E0' : XK} (TS : ∀ c, isS c = true → StrC K (cl.adr c) fa) :
    SatC cl (gStrO isS nl f) (rStrO K fa (spX cl.adr cl.tb 1 nl f) E0') := fun ρ S H xs vs k Q D r h L => by
  unfold gStrO at h
  split at h
  · rename_i p
    split at h
    · rename_i c fs e
      obtain ⟨h1, h2⟩ := band h
      cases r with
      | cons r0 rr =>
        cases rr
        have rx' := r0
        obtain ⟨a, ea, rfl⟩ := r0
        obtain ⟨o, z2, dx, vs, z3, z4⟩ := D.at' _ _ _ e ea
        subst z3
        refine ⟨a, _, dx, vs, rfl, z2, TS c h1, spX_of (x := noX) D rfl (.cons rx' .nil) h2 ?_ linkX_no⟩
        intro w S' ρ' v' H' hk pp D' rw'
        obtain ⟨h3, h4⟩ := band hk
        have q := L _ _ _ _ _ h4 pp D' rw'
        cases w with
        | jn ws => obtain ⟨_, z, _, _, e⟩ := rw'; exact ⟨z, e, q⟩
        | str x => exact ⟨x, rw', q⟩
        | _ => exact ff h3
    · exact ff h
  · exact ff h
/-! ### e.f, a property of the class c; C.m(e, ..), a classmethod -/
def fProp (c nl : Nat) (f : KX → FS) (fe : FE) : FE := fun E S k => fe E S fun x S1 => match x with
  | .ref p => match getS S1 p with
    | some (.ins d _) => Nat.beq c d && f noX (endK k) ([.ref p].map some ++ List.replicate nl none) S1
    | _ => false
  | _ => false
theorem sat_prop {c nl : Nat} {f : KX → FS} {E0' : XK} {fe : FE} {te : TE} (he : SatE cl fe te) : SatE cl (fProp c nl f fe) (tProp (cl.adr c) (spX cl.adr cl.tb 1 nl f) [] E0' te) := fun ρ E S σ H k Q re D h L =>
  he ρ E S σ H _ _ re D h fun x S1 ρ1 xv H1 h1 p1 D1 r1 => by
    cases x with
    | ref p =>
      have rx' := r1
      obtain ⟨ad, ea, rfl⟩ := r1
      simp only at h1
      split at h1
      · rename_i d fs e
        obtain ⟨h2, h3⟩ := band h1
        have := Nat.eq_of_beq_eq_true h2
        subst this
        obtain ⟨u, z2, dx, vs, z3, z4⟩ := D1.at' _ _ _ e ea
        subst z3
        exact ⟨ad, dx, vs, rfl, z2, spX_of (x := noX) D1 rfl (.cons rx' .nil) h3 (L.mono p1) linkX_no⟩
      · exact ff h1
    | _ => exact ff h1
def fCMeth (x : KX) (c np nl : Nat) (f : KX → FS) (fa : FA) : FE := fun E S k => fa E S fun ws S1 => Nat.beq (1 + lenR ws) np && f x (endK k) ((.cls c :: ws).map some ++ List.replicate nl none) S1
theorem sat_cmeth {x : KX} {E0 : XK} {c np nl : Nat} {f : KX → FS} {fa : FA} {ta : TA} (hx : LinkX cl cl.wd x E0) (ha : SatA cl fa ta) : SatE cl (fCMeth x c np nl f fa) (ClX.tCMeth (cl.adr c) (spX cl.adr cl.tb np nl f) E0 (tC (.ref (cl.adr c))) ta) := fun ρ E S σ H k Q re D h L =>
  ⟨rfl, ha ρ E S σ H _ _ re D h fun ws S1 ρ1 vs H1 h1 p1 D1 r1 => by
    obtain ⟨h2, h3⟩ := band h1
    have hl := Nat.eq_of_beq_eq_true h2
    rw [lenR_eq] at hl
    exact spX_of D1 (by simp only [List.length_cons]; omega) (show RelWs cl ρ1 (.cls c :: ws) (.ref (cl.adr c) :: vs) from .cons rfl r1) h3 (L.mono p1) hx⟩
/-! ### C(k = v, ..), C(**d) -/
def endI (p : Nat) (k : KW) : KW := fun w S => match w with
  | .non => k (.ref p) S
  | _ => false
theorem link_init {ρ : Wd} {S : SS} {H : Hp} (D : Den cl ρ S H) {ρ0 : Wd} {x : Addr} {k : KW} {Q : VK} (pp : Wd.le ρ0 ρ) (L : LinkE cl ρ0 k Q) : LinkE cl (ρ.push x) (endI (lenS S) k) (fun v H3 => v = .non ∧ Q (.ref x) H3) := fun w S' ρ' v H' hk p' D' rw' => by
  cases w with
  | non => exact ⟨rw', L _ _ _ _ _ hk (pp.trans (pre_app.trans p')) D' ⟨x, get_app p' (new_at D), rfl⟩⟩
  | _ => exact ff hk
theorem mk_core {x : KX} {E0 : XK} {c np nl : Nat} {f : KX → FS} {ρ ρ0 : Wd} {S : SS} {H : Hp} {ws : List W} {vs : List V} {k : KW} {Q : VK} (hx : LinkX cl cl.wd x E0) (D : Den cl ρ S H) (r : RelWs cl ρ ws vs) (hl : 1 + ws.length = np)
    (h : f x (endK (endI (lenS S) k)) ((.ref (lenS S) :: ws).map some ++ List.replicate nl none) (pushS S (.ins c [])) = true) (pp : Wd.le ρ0 ρ) (L : LinkE cl ρ0 k Q) :
    ∀ a dx, H a = none → H dx = none → dx ≠ a → spX cl.adr cl.tb np nl f (.ref a :: vs) (upd (upd H dx (.own a)) a (.ins (cl.adr c) dx [])) (fun v H3 => v = .non ∧ Q (.ref a) H3) E0 := fun a dx ha hdx ne => by
  have Dn := (D.side (u := .own a) hdx).new (o := .ins c []) (u := .ins (cl.adr c) dx []) (p := a) (by rw [upd_ne ne.symm]; exact ha) ⟨dx, [], rfl, .nil⟩
  exact spX_of (x := x) Dn (by simp only [List.length_cons]; omega) (show RelWs cl (ρ.push a) (.ref (lenS S) :: ws) (.ref a :: vs) from .cons ⟨a, new_at D, rfl⟩ (RelWs.mono pre_app r)) h (link_init D pp L) hx
/-- C(k = v, ..); pm: the values in the parameters' order, with the defaults -/
def fMkK (x : KX) (c np nl m : Nat) (f : KX → FS) (pm : List W → List W) (fk : FA) : FE := fun E S k => fk E S fun zs S2 => (Nat.beq (lenR zs) m && Nat.beq (1 + lenR (pm zs)) np) && f x (endK (endI (lenS S2) k)) ((.ref (lenS S2) :: pm zs).map some ++ List.replicate nl none) (pushS S2 (.ins c []))
theorem sat_mkK {x : KX} {E0 : XK} {c np nl m : Nat} {f : KX → FS} {pm : List W → List W} {pv : List V → List V} {gV : List V → List V → List V} {fk : FA} {tk : TA} (hg : ∀ a zs, gV [a] zs = a :: pv zs) (hp : ∀ ρ us vs, RelWs cl ρ us vs → RelWs cl ρ (pm us) (pv vs)) (hx : LinkX cl cl.wd x E0) (hk : SatA cl fk tk) :
    SatE cl (fMkK x c np nl m f pm fk) (tMakeK (cl.adr c) 0 m (spX cl.adr cl.tb np nl f) gV E0 tNil tk) := fun ρ E S σ H k Q re D h L =>
  hk ρ E S σ H _ _ re D h fun zs S2 ρ2 us H2 h2 p2 D2 r2 => by
    obtain ⟨h3, h4⟩ := band h2
    obtain ⟨h5, h6⟩ := band h3
    have e5 := Nat.eq_of_beq_eq_true h5
    have e6 := Nat.eq_of_beq_eq_true h6
    rw [lenR_eq] at e5 e6
    refine ⟨rfl, by rw [RelWs.len r2]; exact e5, fun a dx ha hdx ne => ?_⟩
    rw [hg]
    exact mk_core hx D2 (hp _ _ _ r2) e6 h4 p2 L a dx ha hdx ne
def keysAre : List (Key × W) → List Str → Bool
  | [], [] => true
  | (k, _) :: l, s :: r => keq k (.inr s) && keysAre l r
  | _, _ => false
theorem keysAre_ok {ρ : Wd} : ∀ {kvs : List (Key × W)} {vs : List (Key × V)} {ks : List Str}, keysAre kvs ks = true → RelK cl ρ kvs vs → vs.map (·.1) = ks.map Sum.inr ∧ RelWs cl ρ (kvs.map (·.2)) (vs.map (·.2))
  | [], [], [], _, .nil => ⟨rfl, .nil⟩
  | (k, w) :: l, (k', v) :: m, s :: r, h, .cons ⟨e, q⟩ t => by
    obtain ⟨h1, h2⟩ := band h
    obtain ⟨a, b⟩ := keysAre_ok h2 t
    have e' : k = k' := e
    subst e'
    have := keq_iff.mp h1
    subst this
    exact ⟨by simp only [List.map_cons, a], .cons q b⟩
  | [], _, _ :: _, h, _ => ff h
  | _ :: _, _, [], h, _ => ff h
def fStarMk (x : KX) (c np nl : Nat) (ks : List Str) (f : KX → FS) (pm : List W → List W) (ff fe : FE) : FE := fun E S k => ff E S fun w S1 => match w with
  | .cls d => Nat.beq c d && fe E S1 fun dw S2 => match dictAt S2 dw with
    | some kvs => (keysAre kvs ks && Nat.beq (1 + lenR (pm (kvs.map (·.2)))) np) && f x (endK (endI (lenS S2) k)) ((.ref (lenS S2) :: pm (kvs.map (·.2))).map some ++ List.replicate nl none) (pushS S2 (.ins c []))
    | none => false
  | _ => false
theorem sat_starMk {x : KX} {E0 : XK} {c np nl : Nat} {ks : List Str} {f : KX → FS} {pm : List W → List W} {pv : List V → List V} {gV : List V → List V → List V} {f1 fe : FE} {tf te : TE} (hg : ∀ a zs, gV [a] zs = a :: pv zs) (hp : ∀ ρ us vs, RelWs cl ρ us vs → RelWs cl ρ (pm us) (pv vs)) (hx : LinkX cl cl.wd x E0) (hf : SatE cl f1 tf) (he : SatE cl fe te) :
    SatE cl (fStarMk x c np nl ks f pm f1 fe) (tStarMk (cl.adr c) ks (spX cl.adr cl.tb np nl f) gV E0 tf te) := fun ρ E S σ H k Q re D h L =>
  hf ρ E S σ H _ _ re D h fun w S1 ρ1 v H1 h1 p1 D1 r1 => by
    cases w with
    | cls d =>
      obtain ⟨h2, h3⟩ := band h1
      have := Nat.eq_of_beq_eq_true h2
      subst this
      refine ⟨r1, he ρ1 E S1 σ H1 _ _ (RelE.mono p1 re) D1 h3 fun dw S2 ρ2 dv H2 h4 p2 D2 r2 => ?_⟩
      split at h4
      · rename_i kvs e
        obtain ⟨h5, h6⟩ := band h4
        obtain ⟨h7, h8⟩ := band h5
        obtain ⟨p, a, vs, rfl, ha, rfl, hH, rk⟩ := dictAt_ok D2 r2 e
        obtain ⟨q1, q2⟩ := keysAre_ok h7 rk
        have e8 := Nat.eq_of_beq_eq_true h8
        rw [lenR_eq] at e8
        refine ⟨a, vs, rfl, hH, q1, fun b dx hb hdx ne => ?_⟩
        rw [hg]
        exact mk_core hx D2 (hp _ _ _ q2) e8 h6 (p1.trans p2) L b dx hb hdx ne
      · exact ff h4
    | _ => exact ff h1
end
end RX
end

set_option Elab.async false
set_option linter.all false
set_option maxRecDepth 100000
set_option maxHeartbeats 4000000
/-! RX7: walks over lists, tuples (written or not), zips; dict comprehensions; list(d.items()); draws and picks. -/
noncomputable section
namespace RX
open PySem PySem.Spec PyProof.Rows L2 RZ LiI
section
variable {cl : CL} {K : PySem.W.Frag}
/-! ### walked lists -/
theorem nthOr_some {xs : List W} {S S1 : SS} {i : Nat} {w : W} (h : nthOr xs S i = some (some (w, S1))) : S1 = S ∧ xs[i]? = some w := by
  unfold nthOr at h
  split at h
  · rename_i w' e
    cases h
    exact ⟨rfl, (getR_eq _ _).symm.trans e⟩
  · split at h <;> cases h
theorem nthOr_none {xs : List W} {S : SS} {i : Nat} (h : nthOr xs S i = some none) : i = xs.length := by
  unfold nthOr at h
  split at h
  · cases h
  · split at h
    · rename_i e
      rw [lenR_eq] at e
      exact Nat.eq_of_beq_eq_true e
    · cases h
theorem satSrc_lst {ρ : Wd} {p : Nat} {a : Addr} (ha : ρ.ad[p]? = some a) : SatSrc cl ρ (Itl K a) (.lst p) := fun ρ' S H i pr D => by
  cases q : itemAt (.lst p) S i with
  | none => trivial
  | some o =>
    simp only [itemAt] at q
    split at q
    · rename_i xs e
      obtain ⟨u, z2, vs, z3, z4⟩ := D.at' _ _ _ e (get_app pr ha)
      subst z3
      have hq : SqL K H a vs := SqL.of z2
      cases o with
      | none =>
        have := nthOr_none q
        exact ⟨vs, hq, by rw [RelWs.len z4, this]; exact Nat.le_refl _⟩
      | some ws =>
        obtain ⟨w, S1⟩ := ws
        obtain ⟨e1, e2⟩ := nthOr_some q
        subst e1
        obtain ⟨v, h1, h2⟩ := RelWs.get z4 e2
        refine ⟨⟨vs, v, hq, h1⟩, fun x H' y => ⟨ρ', pre_refl, y.1 ▸ D, ?_⟩⟩
        have h3 := y.2 vs hq
        rw [h1] at h3
        cases h3
        exact h2
    · cases q
def fiLst (f : FE) : FI := fun E S k => f E S fun w S1 => match w with
  | .ref p => match getS S1 p with
    | some (.lst _) => k (.lst p) S1
    | _ => false
  | _ => false
theorem sat_iLst {f : FE} {t : TE} (hf : SatE cl f t) : SatI cl (fiLst f) (iList K t) := fun ρ E S σ H k R re D h L =>
  hf ρ E S σ H _ _ re D h fun w S1 ρ1 v H1 h1 p1 D1 r1 => by
    cases w with
    | ref p =>
      obtain ⟨a, ea, rfl⟩ := r1
      simp only at h1
      split at h1
      · rename_i xs e
        obtain ⟨u, z2, vs, z3, z4⟩ := D1.at' _ _ _ e ea
        subst z3
        exact ⟨a, rfl, ⟨vs, SqL.of z2⟩, L _ _ _ _ _ h1 p1 D1 (satSrc_lst ea)⟩
      · exact ff h1
    | _ => exact ff h1
/-! ### walked tuples -/
/-- s gives the items of the tuple at a -/
def TSq (cl : CL) (K : PySem.W.Frag) (ρ : Wd) (s : Src) (a : Addr) : Prop := ∀ ρ' S H i, Wd.le ρ ρ' → Den cl ρ' S H →
  match itemAt s S i with
  | some (some (w, S1)) => S1 = S ∧ ∃ vs v, SqT K H a vs ∧ vs[i]? = some v ∧ RelW cl ρ' w v
  | some none => ∃ vs, SqT K H a vs ∧ vs.length ≤ i
  | none => True
theorem sqT_same {H : Hp} {a : Addr} {vs : List V} {i : Nat} {v x : V} (h : SqT K H a vs) (e : vs[i]? = some v) (y : ∀ xs, SqT K H a xs → xs[i]? = some x) : x = v := by
  have := y vs h
  rw [e] at this
  cases this
  rfl
theorem ts_tup {ρ : Wd} {p : Nat} {a : Addr} (ha : ρ.ad[p]? = some a) : TSq cl K ρ (.tup p) a := fun ρ' S H i pr D => by
  cases q : itemAt (.tup p) S i with
  | none => trivial
  | some o =>
    simp only [itemAt] at q
    split at q
    · rename_i xs e
      obtain ⟨u, z2, vs, z3, z4⟩ := D.at' _ _ _ e (get_app pr ha)
      subst z3
      have hq : SqT K H a vs := .inl (.inl z2)
      cases o with
      | none =>
        have := nthOr_none q
        exact ⟨vs, hq, by rw [RelWs.len z4, this]; exact Nat.le_refl _⟩
      | some ws =>
        obtain ⟨w, S1⟩ := ws
        obtain ⟨e1, e2⟩ := nthOr_some q
        subst e1
        obtain ⟨v, h1, h2⟩ := RelWs.get z4 e2
        exact ⟨rfl, vs, v, hq, h1, h2⟩
    · cases q
theorem ts_wr {st : STab} (T : STOk K cl.adr st) {ρ : Wd} {c : Nat} {xs : List W} (h : st c = some xs) : TSq cl K ρ (.wr xs) (cl.adr c) := fun ρ' S H i pr D => by
  obtain ⟨vs, z4, hq⟩ := T.at_ c xs h H ρ'
  cases q : itemAt (.wr xs) S i with
  | none => trivial
  | some o =>
    simp only [itemAt] at q
    cases o with
    | none =>
      have := nthOr_none q
      exact ⟨vs, hq, by rw [RelWs.len (cl := cl) z4, this]; exact Nat.le_refl _⟩
    | some ws =>
      obtain ⟨w, S1⟩ := ws
      obtain ⟨e1, e2⟩ := nthOr_some q
      subst e1
      obtain ⟨v, h1, h2⟩ := RelWs.get (cl := cl) z4 e2
      exact ⟨rfl, vs, v, hq, h1, h2⟩
theorem satSrc_ts {ρ : Wd} {s : Src} {a : Addr} (h : TSq cl K ρ s a) : SatSrc cl ρ (Itt K a) s := fun ρ' S H i pr D => by
  have z := h ρ' S H i pr D
  cases q : itemAt s S i with
  | none => trivial
  | some o =>
    rw [q] at z
    cases o with
    | none => exact z
    | some ws =>
      obtain ⟨w, S1⟩ := ws
      obtain ⟨e1, vs, v, hq, h1, h2⟩ := z
      subst e1
      refine ⟨⟨vs, v, hq, h1⟩, fun x H' y => ⟨ρ', pre_refl, y.1 ▸ D, ?_⟩⟩
      rw [sqT_same hq h1 y.2]
      exact h2
theorem satSrc_zip {ρ : Wd} {s t : Src} {a b : Addr} (h : TSq cl K ρ s a) (g : TSq cl K ρ t b) : SatSrc cl ρ (ItzT K a b) (.zip s t) := fun ρ' S H i pr D => by
  have z := h ρ' S H i pr D
  have y := g ρ' S H i pr D
  cases q : itemAt s S i with
  | none => simp only [itemAt, q]
  | some o =>
    rw [q] at z
    cases o with
    | none =>
      obtain ⟨vs, hq, hl⟩ := z
      cases q' : itemAt t S i with
      | none => simp only [itemAt, q, q']
      | some o' =>
        simp only [itemAt, q, q']
        rw [q'] at y
        cases o' with
        | none =>
          obtain ⟨us, hq', _⟩ := y
          exact ⟨vs, us, hq, hq', .inl hl⟩
        | some ws =>
          obtain ⟨w, S1⟩ := ws
          obtain ⟨_, us, _, hq', _⟩ := y
          exact ⟨vs, us, hq, hq', .inl hl⟩
    | some ws =>
      obtain ⟨w, S1⟩ := ws
      obtain ⟨e1, vs, v, hq, h1, h2⟩ := z
      subst e1
      cases q' : itemAt t S1 i with
      | none => simp only [itemAt, q, q']
      | some o' =>
        rw [q'] at y
        cases o' with
        | none =>
          simp only [itemAt, q, q']
          obtain ⟨us, hq', hl⟩ := y
          exact ⟨vs, us, hq, hq', .inr hl⟩
        | some ws' =>
          obtain ⟨u, S2⟩ := ws'
          simp only [itemAt, q, q']
          obtain ⟨e2, us, x, hq', h1', h2'⟩ := y
          subst e2
          refine ⟨⟨vs, us, v, x, hq, hq', h1, h1'⟩, fun z H' ⟨T, x1, x2, e3, e4, e5, e6, e7⟩ => ?_⟩
          have q1 := sqT_same hq h1 e6
          have q2 := sqT_same hq' h1' e7
          subst q1 q2 e3 e5
          exact ⟨_, pre_app, D.new e4 ⟨_, rfl, .cons (RelW.mono pre_app h2) (.cons (RelW.mono pre_app h2') .nil)⟩, T, new_at D, rfl⟩
/-- what a tuple's walk is -/
def tsOf (st : STab) (S : SS) : W → Option Src
  | .ref p => match getS S p with
    | some (.tup _) => some (.tup p)
    | _ => none
  | .cls c => match st c with
    | some xs => some (.wr xs)
    | none => none
  | _ => none
theorem tsOf_ok {st : STab} (T : STOk K cl.adr st) {ρ : Wd} {S : SS} {H : Hp} (D : Den cl ρ S H) {w : W} {v : V} {s : Src} (h : tsOf st S w = some s) (r : RelW cl ρ w v) : ∃ a, v = .ref a ∧ (∃ vs, SqT K H a vs) ∧ TSq cl K ρ s a := by
  cases w with
  | ref p =>
    obtain ⟨a, ea, rfl⟩ := r
    simp only [tsOf] at h
    split at h
    · rename_i xs e
      cases h
      obtain ⟨u, z2, vs, z3, z4⟩ := D.at' _ _ _ e ea
      subst z3
      exact ⟨a, rfl, ⟨vs, .inl (.inl z2)⟩, ts_tup ea⟩
    · cases h
  | cls c =>
    simp only [tsOf] at h
    split at h
    · rename_i xs e
      cases h
      obtain ⟨vs, z4, hq⟩ := T.at_ c xs e H ρ
      exact ⟨_, r, ⟨vs, hq⟩, ts_wr T e⟩
    · cases h
  | _ => cases h
def fiTup (st : STab) (f : FE) : FI := fun E S k => f E S fun w S1 => match tsOf st S1 w with
  | some s => k s S1
  | none => false
theorem sat_iTup {st : STab} (T : STOk K cl.adr st) {f : FE} {t : TE} (hf : SatE cl f t) : SatI cl (fiTup st f) (iTup K t) := fun ρ E S σ H k R re D h L =>
  hf ρ E S σ H _ _ re D h fun w S1 ρ1 v H1 h1 p1 D1 r1 => by
    split at h1
    · rename_i s e
      obtain ⟨a, rfl, hq, ts⟩ := tsOf_ok T D1 e r1
      exact ⟨a, rfl, hq, L _ _ _ _ _ h1 p1 D1 (satSrc_ts ts)⟩
    · exact ff h1
def fiZip (st : STab) (fa : FA) : FI := fun E S k => fa E S fun ws S1 => match ws with
  | [x, y] => match tsOf st S1 x with
    | some s => match tsOf st S1 y with
      | some t => k (.zip s t) S1
      | none => false
    | none => false
  | _ => false
theorem sat_iZip {st : STab} (T : STOk K cl.adr st) {fa : FA} {ta : TA} (ha : SatA cl fa ta) : SatI cl (fiZip st fa) (iZipA K ta) := fun ρ E S σ H k R re D h L =>
  ha ρ E S σ H _ _ re D h fun ws S1 ρ1 vs H1 h1 p1 D1 r1 => by
    split at h1
    · rename_i x y
      split at h1
      · rename_i s e
        split at h1
        · rename_i t e'
          cases r1 with
          | cons rx rr =>
            cases rr with
            | cons ry rr =>
              cases rr
              obtain ⟨a, rfl, ⟨vs, hq⟩, ts⟩ := tsOf_ok T D1 e rx
              obtain ⟨b, rfl, ⟨us, hq'⟩, ts'⟩ := tsOf_ok T D1 e' ry
              exact ⟨a, b, vs, us, rfl, .inr ⟨hq, hq', L _ _ _ _ _ h1 p1 D1 (satSrc_zip ts ts')⟩⟩
        · exact ff h1
      · exact ff h1
    · exact ff h1
/-! ### {k: v for ..} -/
def loopD (src : Src) (g : FG) (ft : FT) (fk fv : FE) (vs : List Nat) (D : Nat) (E0 : EE) (k : SS → Bool) : Nat → Nat → SS → Bool
  | 0, _, _ => false
  | m + 1, i, S => match itemAt src S i with
    | some (some (w, S1)) => g w (wipeE E0 vs) S1 fun E2 S2 => ft E2 S2 fun b S3 => match b with
      | true => fk E2 S3 fun y S4 => fv E2 S4 fun z S5 => match keyW y with
        | some j => match getS S5 D with
          | some (.dK kvs) => Nat.blt (lenR kvs) 16777216 && loopD src g ft fk fv vs D E0 k m (i + 1) (setS S5 D (.dK (putW kvs j z)))
          | _ => false
        | none => false
      | false => loopD src g ft fk fv vs D E0 k m (i + 1) S3
    | some none => k S
    | none => false
def fDc (fuel : Nat) (fi : FI) (g : FG) (ft : FT) (fk fv : FE) (vs : List Nat) : FE := fun E S k => fi E S fun src S1 => loopD src g ft fk fv vs (lenS S1) E (fun S2 => k (.ref (lenS S1)) S2) fuel 0 (pushS S1 (OB.dK []))
theorem sat_dc {fuel : Nat} {fi : FI} {g : FG} {ft : FT} {fk fv : FE} {vs : List Nat} {wi : TI} {tg : TG} {tt : TT} {tk tv : TE} (hi : SatI cl fi wi) (hg : SatG cl g tg) (ho : Own vs tg) (ht : SatT cl ft tt) (hk : SatE cl fk tk) (hv : SatE cl fv tv) :
    SatE cl (fDc fuel fi g ft fk fv vs) (tDc wi tg tt tk tv vs) := fun ρ E S σ H k Q re Dn h L =>
  hi ρ E S σ H _ _ re Dn h fun src S1 ρ1 J H1 h1 p1 D1 sj => fun D hD => by
    have nD := D1.new (o := .dK []) (u := .dK []) hD ⟨[], rfl, .nil⟩
    have aD := new_at D1 (p := D)
    refine ⟨fun i m H => ∃ ρ' S, Wd.le (ρ1.push D) ρ' ∧ Den cl ρ' S H ∧ loopD src g ft fk fv vs (lenS S1) E (fun S2 => k (.ref (lenS S1)) S2) m i S = true, ⟨fuel, ρ1.push D, _, pre_refl, nD, h1⟩, ?_⟩
    rintro i m H ⟨ρ', S', p', D', h'⟩
    have pr : Wd.le ρ1 ρ' := pre_app.trans p'
    cases m with
    | zero => exact ff h'
    | succ m =>
      have q := sj ρ' S' H i pr D'
      unfold loopD at h'
      split at h'
      · rename_i w S1' e
        rw [e] at q
        refine .inr ⟨q.1, fun H' => ∃ ρ2 S2, Wd.le (ρ1.push D) ρ2 ∧ Den cl ρ2 S2 H' ∧ loopD src g ft fk fv vs (lenS S1) E (fun S2 => k (.ref (lenS S1)) S2) m (i + 1) S2 = true, fun H' z => ⟨m, Nat.lt_succ_self m, z⟩, fun x H' y => ?_⟩
        obtain ⟨ρy, py, Dy, rx⟩ := q.2 x H' y
        replace p' := p'.trans py
        have re' := RelE.wipe (RelE.mono (p1.trans (pr.trans py)) re) vs
        refine ho x (wipe σ vs) σ H' _ wipe_wipe (hg ρy (wipeE E vs) S1' (wipe σ vs) H' w x _ _ re' Dy rx h' fun E2 S2 ρ2 σ2 H2 h2 p2 D2 re2 => ht ρ2 E2 S2 σ2 H2 _ _ re2 D2 h2 fun b S3 ρ3 b' H3 h3 p3 D3 eb => ?_)
        subst eb
        cases b with
        | false =>
          rw [if_neg (by decide)]
          exact ⟨ρ3, S3, p'.trans (p2.trans p3), D3, h3⟩
        | true =>
          rw [if_pos rfl]
          refine hk ρ3 E2 S3 σ2 H3 _ _ (RelE.mono p3 re2) D3 h3 fun y' S4 ρ4 v4 H4 h4 p4 D4 r4 => hv ρ4 E2 S4 σ2 H4 _ _ (RelE.mono (p3.trans p4) re2) D4 h4 fun z' S5 ρ5 v5 H5 h5 p5 D5 r5 => ?_
          split at h5
          · rename_i j ej
            split at h5
            · rename_i kvs ea
              have pp := p'.trans (p2.trans (p3.trans (p4.trans p5)))
              have z4 : ρ5.ad[lenS S1]? = some D := get_app pp aD
              obtain ⟨u, z2, us, rfl, z3⟩ := D5.at' _ _ _ ea z4
              refine ⟨us, j, keyW_ok (cl := cl) r4 ej, z2, ?_, ρ5, _, pp, D5.set (o := .dK (putW kvs j z')) z4 z2 True.intro ⟨_, rfl, putW_ok r5 z3⟩, (band h5).2⟩
              rw [RelK.len z3, sizeLine_eq, ← lenR_eq]
              exact PySem.W.Z.blt_iff.mp (band h5).1
            · exact ff h5
          · exact ff h5
      · rename_i e
        rw [e] at q
        exact .inl ⟨q, L _ _ _ _ _ h' (p1.trans pr) D' ⟨D, get_app p' aD, rfl⟩⟩
      · exact ff h'
/-! ### list(d.items()) -/
theorem Den.add {ρ : Wd} {S : SS} {H : Hp} (D : Den cl ρ S H) {p : Addr} {o : OB} {u : HO} (np : p ∉ ρ.ad) (e : H p = some u) (r : RelO cl (ρ.push p) p o u) : Den cl (ρ.push p) (pushS S o) H := by
  refine ⟨by simp [D.len, pushS], D.mn.mono, ?_, fun k o' a h1 h2 => ?_, D.ge.trans pre_app, D.tb⟩
  · rw [push_ad, List.nodup_append]
    refine ⟨D.nd, by simp, fun a ha b hb => ?_⟩
    simp only [List.mem_singleton] at hb
    subst hb
    intro e; subst e; exact np ha
  · unfold getS pushS at h1
    rw [rget_cons] at h1
    rw [push_ad] at h2
    by_cases hk : k = S.ob.length
    · rw [if_pos hk] at h1
      cases h1
      rw [List.getElem?_append_right (by rw [D.len]; omega)] at h2
      simp [D.len, hk] at h2
      subst h2
      exact ⟨u, e, r⟩
    · rw [if_neg hk] at h1
      have := rget_lt h1
      rw [List.getElem?_append_left (by rw [D.len]; exact this)] at h2
      obtain ⟨u', e, q⟩ := D.at' k o' a h1 h2
      exact ⟨u', e, RelOA.mono pre_app q⟩
def wKey : Key → W
  | .inl i => .int i
  | .inr x => .str x
theorem wKey_ok {ρ : Wd} : ∀ {k : Key}, RelW cl ρ (wKey k) (kV k)
  | .inl _ => rfl
  | .inr _ => rfl
def nodK : List (Key × W) → Bool
  | [] => true
  | (k, _) :: l => (match findK k l with
    | some _ => false
    | none => true) && nodK l
/-- the entries' pairs as new tuples; the list of them -/
def itemsW (S : SS) : List (Key × W) → List W × SS
  | [] => ([], S)
  | (k, w) :: l => ((.ref (lenS S) :: (itemsW (pushS S (.tup [wKey k, w])) l).1), (itemsW (pushS S (.tup [wKey k, w])) l).2)
theorem findK_none {ρ : Wd} {k : Key} : ∀ {kvs : List (Key × W)} {vs : List (Key × V)}, RelK cl ρ kvs vs → findK k kvs = none → ∀ p ∈ vs, p.1 ≠ k
  | [], [], .nil, _ => fun _ h => by cases h
  | (j, w) :: l, (j', v) :: m, .cons ⟨e, r⟩ t, h => fun p hp => by
    have e' : j = j' := e
    subst e'
    unfold findK at h
    split at h
    · cases h
    · rename_i q
      rcases List.mem_cons.mp hp with z | hp
      · rw [z]
        intro y
        have y' : j = k := y
        rw [keq_iff.mpr y'] at q
        cases q
      · exact findK_none t h p hp
theorem kV_inj : ∀ {a b : Key}, kV a = kV b → a = b
  | .inl _, .inl _, h => by injection h with h; rw [h]
  | .inr _, .inr _, h => by injection h with h; rw [h]
  | .inl _, .inr _, h => nomatch h
  | .inr _, .inl _, h => nomatch h
theorem items_den {H' : Hp} : ∀ {kvs : List (Key × W)} {vs : List (Key × V)} {ts : List Addr} {ρ : Wd} {S : SS}, Den cl ρ S H' → RelK cl ρ kvs vs → nodK kvs = true → (∀ t ∈ ts, t ∉ ρ.ad) → Paired (fun (t : Addr) (q : Key × V) => H' t = some (.tup [kV q.1, q.2])) ts vs →
    ∃ ρ', Wd.le ρ ρ' ∧ Den cl ρ' (itemsW S kvs).2 H' ∧ RelWs cl ρ' (itemsW S kvs).1 (ts.map V.ref) ∧ ∀ b, b ∈ ρ'.ad → b ∈ ρ.ad ∨ b ∈ ts
  | [], [], _, ρ, S, D, .nil, _, _, .nil => ⟨ρ, pre_refl, D, .nil, fun b h => .inl h⟩
  | (k, w) :: l, (k', v) :: m, t :: ts, ρ, S, D, .cons ⟨e, r⟩ q, hn, hf, .cons h1 h2 => by
    have e' : k = k' := e
    subst e'
    obtain ⟨n1, n2⟩ := band hn
    have hk : findK k l = none := by
      split at n1
      · cases n1
      · rename_i z; exact z
    have nt : t ∉ ρ.ad := hf t List.mem_cons_self
    have Dn := D.add (o := .tup [wKey k, w]) nt h1 ⟨_, rfl, .cons wKey_ok (.cons (RelWA.mono pre_app r) .nil)⟩
    have ne : ∀ t' ∈ ts, t' ≠ t := fun t' ht' z => by
      subst z
      obtain ⟨j, y, e1, e2, e3⟩ := paired_ix h2 ht'
      rw [h1] at e3
      injection e3 with e3
      injection e3 with e3
      injection e3 with e3 _
      have e4 : k = y.1 := kV_inj e3
      exact findK_none q hk y (List.mem_of_getElem? e2) e4.symm
    obtain ⟨ρ', p', D', r', hb⟩ := items_den Dn (RelK.mono pre_app q) n2 (fun t' ht' z => by
      rw [push_ad, List.mem_append] at z
      rcases z with z | z
      · exact hf t' (List.mem_cons_of_mem _ ht') z
      · exact ne t' ht' (List.mem_singleton.mp z)) h2
    refine ⟨ρ', pre_app.trans p', D', .cons ⟨t, get_app p' (new_at D), rfl⟩ r', fun b hb' => ?_⟩
    rcases hb b hb' with z | z
    · rw [push_ad, List.mem_append] at z
      rcases z with z | z
      · exact .inl z
      · exact .inr (by rw [List.mem_singleton.mp z]; exact List.mem_cons_self)
    · exact .inr (List.mem_cons_of_mem _ z)
def fItems (fe : FE) : FE := fun E S k => fe E S fun d S1 => match dictAt S1 d with
  | some kvs => nodK kvs && k (.ref (lenS (itemsW S1 kvs).2)) (pushS (itemsW S1 kvs).2 (.lst (itemsW S1 kvs).1))
  | none => false
theorem sat_items {fe : FE} {te : TE} (he : SatE cl fe te) : SatE cl (fItems fe) (tListItems te) := fun ρ E S σ H k Q re D h L =>
  he ρ E S σ H _ _ re D h fun d S1 ρ1 v H1 h1 p1 D1 r1 => by
    split at h1
    · rename_i kvs e
      obtain ⟨hn, h1⟩ := band h1
      obtain ⟨p, a, vs, rfl, ha, rfl, hH, rk⟩ := dictAt_ok D1 r1 e
      refine ⟨a, vs, rfl, hH, fun H' q ts hsub hq hts hqt hlst hpr => ?_⟩
      have D2 := D1.same hsub
      obtain ⟨ρ', p', D', r', hb⟩ := items_den D2 rk hn (fun t ht => D1.fresh (hts t ht)) hpr
      have nq : q ∉ ρ'.ad := fun z => by
        rcases hb q z with y | y
        · exact D1.fresh hq y
        · exact hqt y
      exact L _ _ _ _ _ h1 (p1.trans (p'.trans pre_app)) (D'.add (o := .lst (itemsW S1 kvs).1) nq hlst ⟨_, rfl, RelWs.mono pre_app r'⟩) ⟨q, new_at D', rfl⟩
    · exact ff h1
end
end RX
end

set_option Elab.async false
set_option linter.all false
set_option maxRecDepth 100000
set_option maxHeartbeats 4000000
/-! RX8: draws and picks; what a call, a turn, a part of a suite leaves behind, cut back to what stood ahead. -/
noncomputable section
namespace RX
open PySem PySem.Spec PyProof.Rows L2
section
variable {cl : CL} {K : PySem.W.Frag}
/-! ### draws -/
def drawLine : Nat := 9000000
/-- draw(pen, many): pen holds the cells, the next one's place, the rest of a great one -/
def spDraw (_ : Unit) : Sp := fun vs H Q _ => ∃ (p lq : Addr) (i g n : Int) (ns : List Int), vs = [.ref p, .int n] ∧ H p = some (.lst [.ref lq, .int i, .int g]) ∧ H lq = some (.lst (ns.map V.int)) ∧ ns.length ≤ 63 ∧ 0 ≤ i ∧ i < 9000000 ∧ 0 ≤ g ∧ 1 ≤ n ∧ n < 2 ^ 9000 ∧
  ∀ (d i' g' : Int) (H' : Hp), 0 ≤ d → d < n → i ≤ i' → i' ≤ i + 1 → 0 ≤ g' → (∀ b o, upd H p (.lst [.ref lq, .int i', .int g']) b = some o → H' b = some o) → Q (.int d) H'
theorem pen_at {ρ : Wd} {S : SS} {H : Hp} (D : Den cl ρ S H) {p q b : Nat} (h1 : getS S p = some (.pen q b)) (h2 : getS S q = some .cells) :
    ∃ (a lq : Addr) (i g : Int) (ns : List Int), ρ.ad[p]? = some a ∧ ρ.ad[q]? = some lq ∧ H a = some (.lst [.ref lq, .int i, .int g]) ∧ H lq = some (.lst (ns.map V.int)) ∧ ns.length ≤ 63 ∧ 0 ≤ i ∧ i + (cl.sh : Int) ≤ b ∧ 0 ≤ g := by
  obtain ⟨a, u, a1, a2, aq, i, g, a3, rfl, a4, a5, a6⟩ := D.get h1
  obtain ⟨lq, u, b1, b2, ns, rfl, b3⟩ := D.get h2
  rw [a3] at b1; cases b1
  exact ⟨a, aq, i, g, ns, a1, a3, a2, b2, b3, a4, a5, a6⟩
theorem pen_set {ρ : Wd} {S : SS} {H : Hp} (D : Den cl ρ S H) {p q b : Nat} {a lq : Addr} {i g i' g' : Int} (h1 : ρ.ad[p]? = some a) (h2 : ρ.ad[q]? = some lq) (he : H a = some (.lst [.ref lq, .int i, .int g])) (h0 : 0 ≤ i) (hi : i + (cl.sh : Int) ≤ b) (h3 : i ≤ i') (h4 : i' ≤ i + 1) (h5 : 0 ≤ g') :
    Den cl ρ (setS S p (.pen q (b + 1))) (upd H a (.lst [.ref lq, .int i', .int g'])) := D.set (o := .pen q (b + 1)) h1 he True.intro ⟨lq, i', g', h2, rfl, by omega, by omega, h5⟩
def allD (k : Int → Bool) : Nat → Bool
  | 0 => true
  | n + 1 => k (Int.ofNat n) && allD k n
theorem allD_get {k : Int → Bool} : ∀ {n : Nat} {d : Int}, allD k n = true → 0 ≤ d → d < n → k d = true
  | 0, d, _, h0, h1 => by omega
  | n + 1, d, h, h0, h1 => by
    obtain ⟨a, b⟩ := band h
    by_cases e : d = n
    · subst e; exact a
    · exact allD_get b h0 (by omega)
/-- gone through -/
def gDrawC (k : W → SS → Bool) (n : Nat) (S : SS) : Bool := allD (fun d => k (.int d) S) n
def rngW : Nat → List W
  | 0 => []
  | n + 1 => .int (Int.ofNat n) :: rngW n
theorem rngW_mem : ∀ {n : Nat} {d : Int}, 0 ≤ d → d < n → W.int d ∈ rngW n
  | 0, d, h0, h1 => by omega
  | n + 1, d, h0, h1 => by
    by_cases e : d = n
    · subst e; exact List.mem_cons_self
    · exact List.mem_cons_of_mem _ (rngW_mem h0 (by omega))
/-- an unknown int -/
def gDrawV (k : W → SS → Bool) (n : Nat) (S : SS) : Bool := k (.var (lenR S.mn)) (pushM S (rngW n))
def gDraw (sym : Bool) : List W → SS → KW → Bool := fun ws S k => match ws with
  | [.ref p, .int n] => match getS S p with
    | some (.pen q b) => match getS S q with
      | some .cells => (PySem.W.Z.leB 1 n && PySem.W.Z.ltB n 100) && (Nat.blt b drawLine && (match sym with
        | true => gDrawV k n.toNat (setS S p (.pen q (b + 1)))
        | false => gDrawC k n.toNat (setS S p (.pen q (b + 1)))))
      | _ => false
    | _ => false
  | _ => false
def fDraw (sym : Bool) (fa : FA) : FE := fun E S k => fa E S fun ws S1 => gDraw sym ws S1 k
theorem sat_draw {sym : Bool} {E0' : XK} {fa : FA} {ta : TA} (ha : SatA cl fa ta) : SatE cl (fDraw sym fa) (tCall (spDraw ()) [] E0' ta) := fun ρ E S σ H k Q re D h L =>
  ha ρ E S σ H _ _ re D h fun ws S1 ρ1 vs H1 h1 p1 D1 r1 => by
    unfold gDraw at h1
    split at h1
    · rename_i p n
      split at h1
      · rename_i q b e1
        split at h1
        · rename_i e2
          obtain ⟨h2, h3⟩ := band h1
          obtain ⟨h4, h5⟩ := band h2
          obtain ⟨h6, h7⟩ := band h3
          have hn1 : 1 ≤ n := (PySem.W.Z.leB_iff _ _).mp h4
          have hn2 : n < 100 := (PySem.W.Z.ltB_iff _ _).mp h5
          have hb := PySem.W.Z.blt_iff.mp h6
          cases r1 with
          | cons r0 rr =>
            cases rr with
            | cons r2 rr =>
              cases rr
              obtain ⟨ap, ep, rfl⟩ := r0
              obtain rfl := r2
              obtain ⟨a, lq, i, g, ns, f1, f2, f3, f4, f5, f6, f7, f8⟩ := pen_at D1 e1 e2
              rw [ep] at f1; cases f1
              have hdl : (drawLine : Nat) = 9000000 := rfl
              have h99 : (100 : Int) ≤ 2 ^ 9000 := by decide +kernel
              refine ⟨ap, lq, i, g, n, ns, rfl, f3, f4, f5, f6, by omega, f8, hn1, by omega, fun d i' g' H' d0 d1 i0 i1 g0 hH => ?_⟩
              have Dp := (pen_set (cl := cl) D1 (p := p) (q := q) (b := b) (a := ap) (lq := lq) ep f2 f3 f6 f7 i0 i1 g0).same hH
              cases sym with
              | false => exact L _ _ _ _ _ (allD_get h7 d0 (by omega)) p1 Dp rfl
              | true => exact L _ _ _ _ _ h7 (p1.trans pre_know) (Dp.sym (v := .int d) (w := .int d) (rngW_mem d0 (by omega)) rfl) (sym_at Dp)
        · exact ff h1
      · exact ff h1
    · exact ff h1
/-! ### a pick: a new unknown value -/
def spPick (adr : Nat → Addr) (tb : List (Addr × Str)) : Sp := fun vs H Q _ => ∃ (sh : Nat) (ρ : Wd) (S : SS) (p q b x : Nat) (xs : List W) (k : KW), RelWs ⟨adr, sh, ρ, tb⟩ ρ [.ref p, .ref x] vs ∧ Den ⟨adr, sh, ρ, tb⟩ ρ S H ∧ getS S p = some (.pen q b) ∧ getS S q = some .cells ∧ seqAt S x = some xs ∧
  0 < xs.length ∧ xs.length < 100000 ∧ b < drawLine ∧ k (.var (lenR S.mn)) (pushM (setS S p (.pen q (b + 1))) xs) = true ∧ LinkE ⟨adr, sh, ρ, tb⟩ ρ k Q
def gPick : List W → SS → KW → Bool := fun ws S k => match ws with
  | [.ref p, .ref x] => match getS S p with
    | some (.pen q b) => match getS S q with
      | some .cells => match seqAt S x with
        | some xs => (Nat.blt 0 (lenR xs) && Nat.blt (lenR xs) 100000 && Nat.blt b drawLine) && k (.var (lenR S.mn)) (pushM (setS S p (.pen q (b + 1))) xs)
        | none => false
      | _ => false
    | _ => false
  | _ => false
def fPick (fa : FA) : FE := fun E S k => fa E S fun ws S1 => gPick ws S1 k
theorem sat_pick {E0' : XK} {fa : FA} {ta : TA} (ha : SatA cl fa ta) : SatE cl (fPick fa) (tCall (spPick cl.adr cl.tb) [] E0' ta) := fun ρ E S σ H k Q re D h L =>
  ha ρ E S σ H _ _ re D h fun ws S1 ρ1 vs H1 h1 p1 D1 r1 => by
    unfold gPick at h1
    split at h1
    · rename_i p x
      split at h1
      · rename_i q b e1
        split at h1
        · rename_i e2
          split at h1
          · rename_i xs e3
            obtain ⟨h2, h3⟩ := band h1
            simp only [Bool.and_eq_true] at h2
            have a1 := PySem.W.Z.blt_iff.mp h2.1.1
            have a2 := PySem.W.Z.blt_iff.mp h2.1.2
            rw [lenR_eq] at a1 a2
            refine ⟨cl.sh, ρ1, S1, p, q, b, x, xs, k, ?_, D1.root, e1, e2, e3, a1, a2, PySem.W.Z.blt_iff.mp h2.2, h3, linkE_root D1 (L.mono p1)⟩
            rw [List.append_nil]
            exact r1
          · exact ff h1
        · exact ff h1
      · exact ff h1
    · exact ff h1
/-! ### sameness -/
def wEq : W → W → Bool
  | .non, .non => true
  | .bl a, .bl b => bEq a b
  | .int a, .int b => intEq a b
  | .str a, .str b => strEq a b
  | .ref a, .ref b => Nat.beq a b
  | .cls a, .cls b => Nat.beq a b
  | .jn a, .jn b => wdsEq a b
  | .var a, .var b => Nat.beq a b
  | _, _ => false
theorem wEq_ok : ∀ {a b : W}, wEq a b = true → a = b
  | .non, .non, _ => rfl
  | .bl a, .bl b, h => by cases a <;> cases b <;> first | rfl | cases h
  | .int a, .int b, h => congrArg _ ((PySem.W.Z.eqB_iff _ _).mp h)
  | .str a, .str b, h => congrArg _ (strEq_iff.mp h)
  | .ref a, .ref b, h => congrArg _ (Nat.eq_of_beq_eq_true h)
  | .cls a, .cls b, h => congrArg _ (Nat.eq_of_beq_eq_true h)
  | .jn a, .jn b, h => congrArg _ (wdsEq_ok h)
  | .var a, .var b, h => congrArg _ (Nat.eq_of_beq_eq_true h)
def wsEq : List W → List W → Bool
  | [], [] => true
  | a :: l, b :: m => wEq a b && wsEq l m
  | _, _ => false
theorem wsEq_ok : ∀ {a b : List W}, wsEq a b = true → a = b
  | [], [], _ => rfl
  | a :: l, b :: m, h => by rw [wEq_ok (band h).1, wsEq_ok (band h).2]
def oEq : Option Nat → Option Nat → Bool
  | none, none => true
  | some a, some b => Nat.beq a b
  | _, _ => false
theorem oEq_ok : ∀ {a b : Option Nat}, oEq a b = true → a = b
  | none, none, _ => rfl
  | some a, some b, h => congrArg _ (Nat.eq_of_beq_eq_true h)
def fsEq : List (Str × W) → List (Str × W) → Bool
  | [], [] => true
  | (f, a) :: l, (g, b) :: m => (strEq f g && wEq a b) && fsEq l m
  | _, _ => false
theorem fsEq_ok : ∀ {a b : List (Str × W)}, fsEq a b = true → a = b
  | [], [], _ => rfl
  | (f, a) :: l, (g, b) :: m, h => by rw [strEq_iff.mp (band (band h).1).1, wEq_ok (band (band h).1).2, fsEq_ok (band h).2]
def ksEq : List (Key × W) → List (Key × W) → Bool
  | [], [] => true
  | (f, a) :: l, (g, b) :: m => (keq f g && wEq a b) && ksEq l m
  | _, _ => false
theorem ksEq_ok : ∀ {a b : List (Key × W)}, ksEq a b = true → a = b
  | [], [], _ => rfl
  | (f, a) :: l, (g, b) :: m, h => by rw [keq_iff.mp (band (band h).1).1, wEq_ok (band (band h).1).2, ksEq_ok (band h).2]
/-- S (behind a turn) against S0 (ahead of it), object by object; a pen may have turned by up to m -/
def obLe (m : Nat) : OB → OB → Bool
  | .lst a, .lst b => wsEq a b
  | .tup a, .tup b => wsEq a b
  | .dK a, .dK b => ksEq a b
  | .pen q b, .pen r c => Nat.beq q r && Nat.ble b (c + m)
  | .cells, .cells => true
  | .ins c a, .ins d b => Nat.beq c d && fsEq a b
  | _, _ => false
def ssCmp (m : Nat) : List OB → List OB → Bool
  | [], [] => true
  | a :: l, b :: n => obLe m a b && ssCmp m l n
  | _, _ => false
def dropR {α : Type} (l : List α) (k : Nat) : List α := @Nat.rec (fun _ => List α → List α) (fun l => l) (fun _ ih l => @List.rec α (fun _ => List α) [] (fun _ t _ => ih t) l) k l
theorem dropR_eq {α : Type} : ∀ (k : Nat) (l : List α), dropR l k = l.drop k
  | 0, _ => rfl
  | _ + 1, [] => rfl
  | k + 1, _ :: l => dropR_eq k l
def ssLe (m : Nat) (S S0 : SS) : Bool := Nat.ble (lenR S0.ob) (lenR S.ob) && ssCmp m (dropR S.ob (Nat.sub (lenR S.ob) (lenR S0.ob))) S0.ob
/-- each known slot of E0 stands in E -/
def eeLe : EE → EE → Bool
  | [], [] => true
  | a :: l, none :: m => eeLe l m
  | some a :: l, some b :: m => wEq a b && eeLe l m
  | _, _ => false
/-- no reference beyond n, no unknown value beyond j -/
def wdsIn (j : Nat) : List WD → Bool
  | [] => true
  | .lit _ :: l => wdsIn j l
  | .var k :: l => Nat.blt k j && wdsIn j l
theorem sv_take {sv : List V} {j k : Nat} {v : V} (h : Nat.blt k j = true) (e : sv[k]? = some v) : (sv.take j)[k]? = some v := by
  rw [List.getElem?_take, if_pos (PySem.W.Z.blt_iff.mp h)]
  exact e
theorem wdsIn_cut {sv : List V} {j : Nat} : ∀ {ws : List WD} {zs : List (List Nat)}, wdsIn j ws = true → Paired (RelD sv) ws zs → Paired (RelD (sv.take j)) ws zs
  | [], _, _, .nil => .nil
  | .lit _ :: l, _, h, .cons r t => .cons r (wdsIn_cut h t)
  | .var _ :: l, _, h, .cons ⟨x, e, r⟩ t => .cons ⟨x, sv_take (band h).1 e, r⟩ (wdsIn_cut (band h).2 t)
def wIn (n j : Nat) : W → Bool
  | .ref k => Nat.blt k n
  | .var k => Nat.blt k j
  | .jn ws => wdsIn j ws
  | _ => true
def wsIn (n j : Nat) : List W → Bool
  | [] => true
  | a :: l => wIn n j a && wsIn n j l
def fsIn (n j : Nat) : List (Str × W) → Bool
  | [] => true
  | (_, a) :: l => wIn n j a && fsIn n j l
def ksIn (n j : Nat) : List (Key × W) → Bool
  | [] => true
  | (_, a) :: l => wIn n j a && ksIn n j l
def obIn (n j : Nat) : OB → Bool
  | .lst a => wsIn n j a
  | .tup a => wsIn n j a
  | .dK a => ksIn n j a
  | .pen q _ => Nat.blt q n
  | .cells => true
  | .ins _ fs => fsIn n j fs
  | _ => false
def ssIn (n j : Nat) : List OB → Bool
  | [] => true
  | a :: l => obIn n j a && ssIn n j l
def eeIn (n j : Nat) : EE → Bool
  | [] => true
  | some a :: l => wIn n j a && eeIn n j l
  | none :: l => eeIn n j l
theorem RelW.cut {adr : Nat → Addr} {ρ : Wd} {n j : Nat} {w : W} {v : V} (h : wIn n j w = true) (r : RelWA adr ρ w v) : RelWA adr (ρ.cut n j) w v := by
  cases w with
  | ref k =>
    obtain ⟨a, e, z⟩ := r
    exact ⟨a, by rw [Wd.cut_ad, List.getElem?_take, if_pos (PySem.W.Z.blt_iff.mp h)]; exact e, z⟩
  | var k => exact sv_take h r
  | jn ws => obtain ⟨zs, z, p, e, q⟩ := r; exact ⟨zs, z, wdsIn_cut h p, e, q⟩
  | _ => exact r
theorem RelWs.cut {adr : Nat → Addr} {ρ : Wd} {n j : Nat} : ∀ {ws : List W} {vs : List V}, wsIn n j ws = true → Paired (RelWA adr ρ) ws vs → Paired (RelWA adr (ρ.cut n j)) ws vs
  | _, _, _, .nil => .nil
  | _, _, h, .cons r t => .cons (RelW.cut (band h).1 r) (RelWs.cut (band h).2 t)
theorem RelF.cut {adr : Nat → Addr} {ρ : Wd} {n j : Nat} : ∀ {fs : List (Str × W)} {vs : List (Str × V)}, fsIn n j fs = true → RelFA adr ρ fs vs → RelFA adr (ρ.cut n j) fs vs
  | _, _, _, .nil => .nil
  | (_, _) :: _, (_, _) :: _, h, .cons r t => .cons ⟨r.1, RelW.cut (band h).1 r.2⟩ (RelF.cut (band h).2 t)
theorem RelK.cut {adr : Nat → Addr} {ρ : Wd} {n j : Nat} : ∀ {fs : List (Key × W)} {vs : List (Key × V)}, ksIn n j fs = true → RelKA adr ρ fs vs → RelKA adr (ρ.cut n j) fs vs
  | _, _, _, .nil => .nil
  | (_, _) :: _, (_, _) :: _, h, .cons r t => .cons ⟨r.1, RelW.cut (band h).1 r.2⟩ (RelK.cut (band h).2 t)
theorem RelO.cut {adr : Nat → Addr} {sh : Nat} {ρ : Wd} {n j : Nat} {a : Addr} {o : OB} {u : HO} (h : obIn n j o = true) (r : RelOA adr sh ρ a o u) : RelOA adr sh (ρ.cut n j) a o u := by
  cases o with
  | lst xs => obtain ⟨vs, e, z⟩ := r; exact ⟨vs, e, RelWs.cut h z⟩
  | tup xs => obtain ⟨vs, e, z⟩ := r; exact ⟨vs, e, RelWs.cut h z⟩
  | dK xs => obtain ⟨vs, e, z⟩ := r; exact ⟨vs, e, RelK.cut h z⟩
  | pen q b =>
    obtain ⟨aq, i, g, e, z⟩ := r
    exact ⟨aq, i, g, by rw [Wd.cut_ad, List.getElem?_take, if_pos (PySem.W.Z.blt_iff.mp h)]; exact e, z⟩
  | cells => exact r
  | ins c fs => obtain ⟨dx, vs, e, z⟩ := r; exact ⟨dx, vs, e, RelF.cut h z⟩
  | _ => exact ff h
theorem ssIn_mem {n j : Nat} : ∀ {S : List OB} {o : OB}, ssIn n j S = true → o ∈ S → obIn n j o = true
  | [], _, _, h => by cases h
  | a :: l, o, h, e => by
    rcases List.mem_cons.mp e with e | e
    · subst e; exact (band h).1
    · exact ssIn_mem (band h).2 e
theorem ssIn_get {n j : Nat} {S : List OB} {k : Nat} {o : OB} (h : ssIn n j S = true) (e : S.reverse[k]? = some o) : obIn n j o = true :=
  ssIn_mem h (List.mem_reverse.mp (List.mem_of_getElem? e))
theorem ssCmp_get {m : Nat} : ∀ {S S0 : List OB}, ssCmp m S S0 = true → S.length = S0.length ∧ ∀ {k : Nat} {o : OB}, S0[k]? = some o → ∃ o', S[k]? = some o' ∧ obLe m o' o = true
  | [], [], _ => ⟨rfl, fun e => by simp at e⟩
  | a :: l, b :: n, h => by
    obtain ⟨h1, h2⟩ := ssCmp_get (band h).2
    refine ⟨congrArg Nat.succ h1, fun {k o} e => ?_⟩
    cases k with
    | zero => simp at e; subst e; exact ⟨a, rfl, (band h).1⟩
    | succ k =>
      obtain ⟨o', h3, h4⟩ := h2 (k := k) (by simpa using e)
      exact ⟨o', by simpa using h3, h4⟩
  | [], _ :: _, h => ff h
  | _ :: _, [], h => ff h
theorem ssLe_len {m : Nat} {S S0 : SS} (h : ssLe m S S0 = true) : S0.ob.length ≤ S.ob.length := by
  have := PySem.W.Z.ble_iff.mp (band h).1
  rw [lenR_eq, lenR_eq] at this
  exact this
theorem ssLe_get {m : Nat} {S S0 : SS} {k : Nat} {o : OB} (h : ssLe m S S0 = true) (e : S0.ob.reverse[k]? = some o) : ∃ o', S.ob.reverse[k]? = some o' ∧ obLe m o' o = true := by
  have hl := ssLe_len h
  have hk : k < S0.ob.length := by
    have := (List.getElem?_eq_some_iff.mp e).1
    simpa using this
  obtain ⟨h1, h2⟩ := ssCmp_get (band h).2
  rw [dropR_eq, lenR_eq, lenR_eq] at h1 h2
  rw [List.getElem?_reverse hk] at e
  obtain ⟨o', h3, h4⟩ := h2 e
  refine ⟨o', ?_, h4⟩
  rw [List.getElem?_reverse (by omega)]
  rw [List.getElem?_drop] at h3
  rw [← h3]
  congr 1
  show S.ob.length - 1 - k = (S.ob.length - S0.ob.length) + (S0.ob.length - 1 - k)
  omega
theorem RelO.weak {adr : Nat → Addr} {sh sh' : Nat} {ρ : Wd} {m : Nat} {a : Addr} {o o' : OB} {u : HO} (hs : sh' + m ≤ sh) (hl : obLe m o' o = true) (r : RelOA adr sh ρ a o' u) : RelOA adr sh' ρ a o u := by
  cases o with
  | lst b =>
    cases o' <;> first | exact ff hl | skip
    rename_i a'
    have e := wsEq_ok (show wsEq a' b = true from hl)
    subst e
    exact r
  | tup b =>
    cases o' <;> first | exact ff hl | skip
    rename_i a'
    have e := wsEq_ok (show wsEq a' b = true from hl)
    subst e
    exact r
  | dK b =>
    cases o' <;> first | exact ff hl | skip
    rename_i a'
    have e := ksEq_ok (show ksEq a' b = true from hl)
    subst e
    exact r
  | pen q c =>
    cases o' <;> first | exact ff hl | skip
    rename_i r' b
    obtain ⟨h1, h2⟩ := band (show (Nat.beq r' q && Nat.ble b (c + m)) = true from hl)
    have e := Nat.eq_of_beq_eq_true h1
    subst e
    have h3 := PySem.W.Z.ble_iff.mp h2
    obtain ⟨aq, i, g, a1, a2, a3, a4, a5⟩ := r
    exact ⟨aq, i, g, a1, a2, a3, by omega, a5⟩
  | cells =>
    cases o' <;> first | exact ff hl | skip
    exact r
  | ins c fs =>
    cases o' <;> first | exact ff hl | skip
    rename_i c' fs'
    obtain ⟨h1, h2⟩ := band (show (Nat.beq c' c && fsEq fs' fs) = true from hl)
    have e1 := Nat.eq_of_beq_eq_true h1
    have e2 := fsEq_ok h2
    subst e1
    subst e2
    exact r
  | _ => cases o' <;> exact ff hl
theorem take_eq {ρ ρ2 : Wd} {n : Nat} (h : Wd.le ρ ρ2) (hn : n = ρ.ad.length) : ρ2.cut n ρ.sv.length = ρ := by
  obtain ⟨⟨t, e1⟩, u, e2⟩ := h
  cases ρ with
  | mk ad sv =>
    cases ρ2 with
    | mk ad2 sv2 =>
      dsimp only at e1 e2 hn
      subst e1
      subst e2
      unfold Wd.cut
      dsimp only
      rw [hn, List.take_left' rfl, List.take_left' rfl]
/-- what stands behind, cut back to what stood ahead: S0 over the world ρ0 -/
theorem Den.back {cl' : CL} {ρ0 ρ : Wd} {S S0 : SS} {H : Hp} {m : Nat} (hc : cl'.adr = cl.adr) (ht : cl'.tb = cl.tb) (hw : Wd.le cl'.wd ρ0) (hs : cl'.sh + m ≤ cl.sh) (hp : Wd.le ρ0 ρ) (hl : S0.ob.length = ρ0.ad.length) (hm : MnOk cl'.adr ρ0 S0.mn) (D : Den cl ρ S H) (h1 : ssLe m S S0 = true) (h2 : ssIn S0.ob.length ρ0.sv.length S0.ob = true) : Den cl' ρ0 S0 H := by
  have hcut := take_eq hp hl
  obtain ⟨adr', sh', wd', tb'⟩ := cl'
  dsimp only at hc ht hw hs hm
  subst hc ht
  refine ⟨hl.symm, hm, ?_, fun k o a e1 e2 => ?_, hw, D.tb⟩
  · rw [← hcut, Wd.cut_ad]
    exact D.nd.sublist (List.take_sublist _ _)
  · rw [getS_rev] at e1
    obtain ⟨o', e3, e4⟩ := ssLe_get h1 e1
    obtain ⟨u, e5, e6⟩ := D.at' k o' a ((getS_rev _ _).trans e3) (get_app hp e2)
    refine ⟨u, e5, ?_⟩
    have := RelO.cut (n := S0.ob.length) (j := ρ0.sv.length) (ssIn_get h2 e1) (RelO.weak hs e4 e6)
    rw [hcut] at this
    exact this
theorem RelE.back {adr : Nat → Addr} {ρ0 ρ : Wd} {n : Nat} (hp : Wd.le ρ0 ρ) (hl : n = ρ0.ad.length) : ∀ {E E0 : EE} {σ : L2.St}, RelEA adr ρ E σ → eeLe E E0 = true → eeIn n ρ0.sv.length E0 = true → RelEA adr ρ0 E0 σ
  | [], [], _, .nil, _, _ => .nil
  | _ :: _, none :: _, _, .cons _ t, h, h2 => .cons (fun _ e => nomatch e) (RelE.back hp hl t h h2)
  | some a :: _, some b :: _, _, .cons q t, h, h2 => by
    obtain ⟨h3, h4⟩ := band h
    obtain ⟨h5, h6⟩ := band h2
    have e := wEq_ok h3
    subst e
    refine .cons (fun w e => ?_) (RelE.back hp hl t h4 h6)
    cases e
    obtain ⟨v, h7, h8⟩ := q a rfl
    refine ⟨v, h7, ?_⟩
    have := RelW.cut (n := n) (j := ρ0.sv.length) h5 h8
    rw [take_eq hp hl] at this
    exact this
  | [], _ :: _, _, _, h, _ => ff h
  | none :: _, some _ :: _, _, _, h, _ => ff h
  | _ :: _, [], _, _, h, _ => ff h
/-! ### the pens' counts lifted -/
def liftL (m : Nat) : List OB → List OB
  | [] => []
  | .pen q b :: l => .pen q (b + m) :: liftL m l
  | o :: l => o :: liftL m l
def liftP (m : Nat) (S : SS) : SS := ⟨liftL m S.ob, S.mn⟩
theorem liftL_len (m : Nat) : ∀ S : List OB, (liftL m S).length = S.length
  | [] => rfl
  | o :: l => by cases o <;> simp [liftL, liftL_len m l]
theorem liftL_get0 (m : Nat) : ∀ {S : List OB} {k : Nat} {o : OB}, (liftL m S)[k]? = some o → ∃ o', S[k]? = some o' ∧ ((o = o' ∧ ∀ q b, o ≠ .pen q b) ∨ ∃ q b, o' = .pen q b ∧ o = .pen q (b + m))
  | [], _, _, h => by simp [liftL] at h
  | o :: l, 0, o', h => by
    cases o <;> simp [liftL] at h <;> subst h <;> first | exact ⟨_, rfl, .inl ⟨rfl, fun _ _ z => nomatch z⟩⟩ | exact ⟨_, rfl, .inr ⟨_, _, rfl, rfl⟩⟩
  | o :: l, k + 1, o', h => by
    have h' : (liftL m l)[k]? = some o' := by cases o <;> simpa [liftL] using h
    obtain ⟨o2, e1, e2⟩ := liftL_get0 m h'
    exact ⟨o2, by simpa using e1, e2⟩
theorem liftL_append (m : Nat) : ∀ A B : List OB, liftL m (A ++ B) = liftL m A ++ liftL m B
  | [], _ => rfl
  | a :: l, B => by cases a <;> simp [liftL, liftL_append m l B]
theorem liftL_rev (m : Nat) : ∀ S : List OB, (liftL m S).reverse = liftL m S.reverse
  | [] => rfl
  | a :: l => by
    rw [List.reverse_cons, liftL_append, ← liftL_rev m l]
    cases a <;> simp [liftL]
theorem liftL_get (m : Nat) {S : List OB} {k : Nat} {o : OB} (h : (liftL m S).reverse[k]? = some o) : ∃ o', S.reverse[k]? = some o' ∧ ((o = o' ∧ ∀ q b, o ≠ .pen q b) ∨ ∃ q b, o' = .pen q b ∧ o = .pen q (b + m)) :=
  liftL_get0 m (by rw [liftL_rev] at h; exact h)
theorem RelO.sh {adr : Nat → Addr} {sh sh' : Nat} {ρ : Wd} (hs : sh' ≤ sh) {a : Addr} {o : OB} {u : HO} (r : RelOA adr sh ρ a o u) : RelOA adr sh' ρ a o u := by
  cases o with
  | pen q b => obtain ⟨aq, i, g, a1, a2, a3, a4, a5⟩ := r; exact ⟨aq, i, g, a1, a2, a3, by omega, a5⟩
  | exk c d => cases d <;> exact r
  | _ => exact r
theorem Den.sh {ρ : Wd} {S : SS} {H : Hp} {sh' : Nat} (hs : sh' ≤ cl.sh) (D : Den cl ρ S H) : Den { cl with sh := sh' } ρ S H :=
  ⟨D.len, D.mn, D.nd, fun k o a h1 h2 => let ⟨u, e, r⟩ := D.at' k o a h1 h2; ⟨u, e, RelO.sh hs r⟩, D.ge, D.tb⟩
theorem Den.lift {ρ : Wd} {S : SS} {H : Hp} {m sh' : Nat} (hs : sh' = cl.sh + m) (D : Den cl ρ S H) : Den { cl with sh := sh' } ρ (liftP m S) H := by
  refine ⟨by show _ = (liftL m S.ob).length; rw [liftL_len]; exact D.len, D.mn, D.nd, fun k o a h1 h2 => ?_, D.ge, D.tb⟩
  rw [getS_rev] at h1
  obtain ⟨o', e1, e2⟩ := liftL_get m h1
  obtain ⟨u, e3, r⟩ := D.at' k o' a ((getS_rev _ _).trans e1) h2
  refine ⟨u, e3, ?_⟩
  rcases e2 with ⟨rfl, np⟩ | ⟨q, b, rfl, rfl⟩
  · cases o with
    | pen q b => exact absurd rfl (np q b)
    | exk c d => cases d <;> exact r
    | _ => exact r
  · obtain ⟨aq, i, g, a1, a2, a3, a4, a5⟩ := r
    exact ⟨aq, i, g, a1, a2, a3, by show i + (sh' : Int) ≤ ((b + m : Nat) : Int); rw [hs]; omega, a5⟩
/-! ### a call that gives True, what it leaves behind not looked at again -/
def isTrue : W → Bool
  | .bl b => b
  | _ => false
def fTrueC (M np nl : Nat) (f : KX → FS) (fa : FA) : FE := fun E S k => fa E S fun ws S1 => (Nat.beq (lenR ws) np && ssIn (lenR S1.ob) (lenR S1.mn) (liftP M S1).ob) &&
  (f noX (endK fun w S2 => isTrue w && ssLe 0 S2 (liftP M S1)) (ws.map some ++ List.replicate nl none) S1 && k (.bl true) (liftP M S1))
theorem sat_trueC {M np nl : Nat} {f : KX → FS} {E0' : XK} {fa : FA} {ta : TA} (ha : SatA cl fa ta) : SatE cl (fTrueC M np nl f fa) (tCall (spX cl.adr cl.tb np nl f) [] E0' ta) := fun ρ E S σ H k Q re D h L =>
  ha ρ E S σ H _ _ re D h fun ws S1 ρ1 vs H1 h1 p1 D1 r1 => by
    obtain ⟨h2, h3⟩ := band h1
    obtain ⟨h4, h5⟩ := band h2
    obtain ⟨h6, h7⟩ := band h3
    have hl := Nat.eq_of_beq_eq_true h4
    rw [lenR_eq] at hl h5
    rw [lenR_eq] at h5
    have hlen : (liftP M S1).ob.length = ρ1.ad.length := by show (liftL M S1.ob).length = _; rw [liftL_len, D1.len]
    rw [List.append_nil]
    refine spX_of (x := noX) D1 hl r1 h6 (fun w S2 ρ2 v H2 hk pp D2 rw' => ?_) linkX_no
    obtain ⟨k1, k2⟩ := band hk
    cases w with
    | bl b =>
      have hb : b = true := k1
      subst hb
      obtain rfl : v = .bl true := rw'
      exact L _ _ _ _ _ h7 p1 (Den.back (cl := cl) (cl' := cl) (m := 0) rfl rfl D1.ge (Nat.le_refl _) pp hlen D1.mn D2 k2 (by rw [hlen, D1.len, D1.mn.1]; exact h5)) rfl
    | _ => exact ff k1
/-! ### a suite's part whose traces are not looked at again -/
def wipeR (E : EE) : List Nat → EE
  | [] => E
  | v :: vs => setR (wipeR E vs) v none
theorem RelE.wipeR {ρ : Wd} {E : EE} {σ : L2.St} (r : RelE cl ρ E σ) : ∀ vs : List Nat, RelE cl ρ (wipeR E vs) σ
  | [] => r
  | v :: vs => by
    have := RelE.wipeR r vs
    show RelE cl ρ (setR (RX.wipeR E vs) v none) σ
    have key : ∀ {E : EE} {σ : L2.St} (i : Nat), RelE cl ρ E σ → RelE cl ρ (E.set i none) σ := by
      intro E σ i re
      induction re generalizing i with
      | nil => exact .nil
      | cons q t ih =>
        cases i with
        | zero => exact .cons (fun _ e => nomatch e) t
        | succ i => exact .cons q (ih i)
    rw [setR_eq]
    exact key v this
def fCut (M : Nat) (vs : List Nat) (f g : FS) : FS := fun K E S => (eeIn (lenR S.ob) (lenR S.mn) (wipeR E vs) && ssIn (lenR S.ob) (lenR S.mn) (liftP M S).ob) &&
  (f { K with nx := fun E' S' => eeLe E' (wipeR E vs) && ssLe 0 S' (liftP M S) } E S && g K (wipeR E vs) (liftP M S))
theorem sat_cut {M : Nat} {vs : List Nat} {f g : FS} {t u : TS} (hf : SatS cl f t) (hg : SatS cl g u) : SatS cl (fCut M vs f g) (tSeq t u) := fun ρ E S σ H K D re Dn h L => by
  obtain ⟨h1, h2⟩ := band h
  obtain ⟨h3, h4⟩ := band h1
  obtain ⟨h5, h6⟩ := band h2
  rw [lenR_eq, lenR_eq] at h3 h4
  have hlen : (liftP M S).ob.length = ρ.ad.length := by show (liftL M S.ob).length = _; rw [liftL_len, Dn.len]
  refine hf ρ E S σ H _ _ re Dn h5 ⟨fun E' S' ρ' σ' H' h' p' D' r' => ?_, L.rt, L.bk, L.ct⟩
  obtain ⟨q1, q2⟩ := band h'
  have DB := Den.back (cl := cl) (cl' := cl) (m := 0) rfl rfl Dn.ge (Nat.le_refl _) p' hlen Dn.mn D' q2 (by rw [hlen, Dn.len, Dn.mn.1]; exact h4)
  have RB := RelE.back (adr := cl.adr) (n := S.ob.length) p' Dn.len.symm r' q1 (by rw [Dn.mn.1]; exact h3)
  exact hg ρ _ _ σ' H' K D RB DB h6 L
/-! ### for x in range(n): each turn from the same state; the loop's name not looked at -/
def allT (f : Nat → Bool) : Nat → Bool
  | 0 => true
  | n + 1 => f n && allT f n
theorem allT_get {f : Nat → Bool} : ∀ {n i : Nat}, allT f n = true → i < n → f i = true
  | n + 1, i, h, hi => by
    obtain ⟨a, b⟩ := band h
    by_cases e : i = n
    · subst e; exact a
    · exact allT_get b (by omega)
def fForU (n M : Nat) (vs : List Nat) (body : FS) : FS := fun K E S => (eeIn (lenR S.ob) (lenR S.mn) (wipeR E vs) && ssIn (lenR S.ob) (lenR S.mn) (liftP (n * M) S).ob) &&
  (body { nx := fun E' S' => eeLe E' (wipeR E vs) && ssLe M S' (liftP (n * M) S), rt := K.rt, bk := fun _ _ => false, ct := fun _ _ => false } (wipeR E vs) (liftP (n * M) S) && K.nx (wipeR E vs) (liftP (n * M) S))
theorem linkE_sh {ρ : Wd} {sh' : Nat} (hs : cl.sh ≤ sh') {k : KW} {Q : VK} (L : LinkE cl ρ k Q) : LinkE { cl with sh := sh' } ρ k Q := fun w S' ρ' v H' h p D r => L w S' ρ' v H' h p (Den.sh (cl := { cl with sh := sh' }) hs D) r
theorem setNone {adr : Nat → Addr} {ρ : Wd} {v : V} : ∀ {E : EE} {σ : L2.St} (i : Nat), RelEA adr ρ E σ → getR E i = some none → RelEA adr ρ E (σ.set i (some v))
  | _, _, _, .nil, e => by cases e
  | _, _, 0, .cons q t, e => by
    have e' : _ = (none : Option W) := Option.some.inj e
    exact .cons (fun w z => by rw [e'] at z; cases z) t
  | _, _, i + 1, .cons q t, e => .cons q (setNone i t e)
theorem getR_set {α : Type} {l : List α} {i : Nat} {x : α} (h : i < l.length) : getR (setR l i x) i = some x := by
  rw [getR_eq, setR_eq, List.getElem?_set_self h]
def isWiped (E : EE) (i : Nat) : Bool := match getR E i with
  | some none => true
  | _ => false
theorem isWiped_ok {E : EE} {i : Nat} (h : isWiped E i = true) : getR E i = some none := by
  unfold isWiped at h
  split at h
  · assumption
  · exact ff h
def fForV (n M i : Nat) (vs : List Nat) (body : FS) : FS := fun K E S => isWiped (wipeR E vs) i && fForU n M vs body K E S
theorem sat_forV {n M i : Nat} {vs : List Nat} {body : FS} {tb : TS} (hn : n < 4611686018427387904) (hb : ∀ sh, SatS { cl with sh := sh } body tb) :
    SatS cl (fForV n M i vs body) (tFor (iRng1 (tCons (tC (.int (Int.ofNat n))) tNil)) (gName i) tb) := fun ρ E S σ H K D re Dn h L => by
  obtain ⟨hw, h⟩ := band h
  have hw := isWiped_ok hw
  obtain ⟨h1, h2⟩ := band h
  obtain ⟨h3, h4⟩ := band h1
  obtain ⟨h5, h6⟩ := band h2
  rw [lenR_eq, lenR_eq] at h3 h4
  have hlen : (liftP (n * M) S).ob.length = ρ.ad.length := by show (liftL _ S.ob).length = _; rw [liftL_len, Dn.len]
  refine ⟨Int.ofNat n, rfl, by have := Int.natCast_nonneg n; show -(2 ^ 62) ≤ (n : Int); omega, by show (n : Int) < 2 ^ 62; omega, ?_⟩
  refine for_range (lo := 0) (n := (Int.ofNat n).toNat) (fun i σ H => RelEA cl.adr ρ (wipeR E vs) σ ∧ Den { cl with sh := cl.sh + (n - i) * M } ρ (liftP (n * M) S) H) ⟨RelE.wipeR re vs, Den.lift (by simp) Dn⟩ ?_ ?_
  · rintro j σ H hj ⟨r1, r2⟩
    have hj' : j < n := hj
    have pow : (n - j) * M = (n - (j + 1)) * M + M := by
      rw [show n - j = (n - (j + 1)) + 1 by omega, Nat.add_mul, Nat.one_mul]
    refine hb (cl.sh + (n - j) * M) ρ _ _ _ H _ _ (setNone i r1 hw) r2 h5 ⟨fun E3 S3 ρ3 σ3 H3 hh p3 D3 re3 => ?_, linkE_sh (Nat.le_add_right _ _) L.rt, fun _ _ _ _ _ hh _ _ _ => ff hh, fun _ _ _ _ _ hh _ _ _ => ff hh⟩
    obtain ⟨q1, q2⟩ := band hh
    refine ⟨RelE.back (adr := cl.adr) (n := S.ob.length) p3 Dn.len.symm re3 q1 (by rw [Dn.mn.1]; exact h3), ?_⟩
    exact Den.back (cl := { cl with sh := cl.sh + (n - j) * M }) (cl' := { cl with sh := cl.sh + (n - (j + 1)) * M }) (m := M) rfl rfl Dn.ge (by show cl.sh + (n - (j + 1)) * M + M ≤ cl.sh + (n - j) * M; omega) p3 hlen Dn.mn D3 q2 (by rw [hlen, Dn.len, Dn.mn.1]; exact h4)
  · rintro σ H ⟨r1, r2⟩
    exact L.nx _ _ ρ σ H h6 pre_refl (Den.sh (cl := { cl with sh := cl.sh + (n - (Int.ofNat n).toNat) * M }) (Nat.le_add_right _ _) r2) r1
/-! ### a loop that goes from list to list: an unknown number of unknown words -/
def varsFrom (m : Nat) : Nat → List W
  | 0 => []
  | n + 1 => .var m :: varsFrom (m + 1) n
def repM (menu : List W) : Nat → List (List W) → List (List W)
  | 0, mn => mn
  | n + 1, mn => repM menu n (menu :: mn)
/-- j unknown words in a new list, in the slot iw -/
def famE (iw : Nat) (E0 : EE) (S0 : SS) : EE := setR E0 iw (some (.ref (lenR S0.ob)))
def famS (menu : List W) (j : Nat) (S0 : SS) : SS := ⟨.lst (varsFrom (lenR S0.mn) j) :: S0.ob, repM menu j S0.mn⟩
def inStrs (menu : List W) (w : W) : Bool := match w with
  | .str z => menu.any fun m => match m with
    | .str y => strEq y z
    | _ => false
  | _ => false
def subMenu (S : SS) (menu : List W) (w : W) : Bool := match menuOf S w with
  | some ms => allB (inStrs menu) ms
  | none => false
def inFam (iw M lo hi : Nat) (menu : List W) (E0 : EE) (S0 : SS) (E : EE) (S : SS) : Bool := (eeLe E E0 && ssLe M S S0) && (match getR E iw with
  | some (some (.ref p)) => match getS S p with
    | some (.lst xs) => Nat.ble (lenR S0.ob) p && (Nat.ble lo (lenR xs) && Nat.ble (lenR xs) hi && allB (subMenu S menu) xs)
    | _ => false
  | _ => false)
theorem inStrs_ok {menu : List W} {w : W} (h : inStrs menu w = true) : ∃ z, w = .str z ∧ W.str z ∈ menu := by
  unfold inStrs at h
  split at h
  · rename_i z
    obtain ⟨m, hm, e⟩ := List.any_eq_true.mp h
    cases m <;> simp only [Bool.false_eq_true] at e
    rw [strEq_iff.mp e] at hm
    exact ⟨z, rfl, hm⟩
  · exact ff h
theorem subMenus_ok {ρ : Wd} {S : SS} {H : Hp} (D : Den cl ρ S H) {menu : List W} : ∀ {xs : List W} {vs : List V}, allB (subMenu S menu) xs = true → RelWs cl ρ xs vs → ∀ v ∈ vs, ∃ z, v = .str z ∧ W.str z ∈ menu
  | [], [], _, .nil => fun _ h => by cases h
  | x :: xs, v :: vs, h, .cons r t => fun u hu => by
    obtain ⟨h1, h2⟩ := band h
    rcases List.mem_cons.mp hu with e | hu
    · unfold subMenu at h1
      split at h1
      · rename_i ms em
        obtain ⟨m, hm, rm⟩ := menuOf_ok D em r
        obtain ⟨z, e1, e2⟩ := inStrs_ok (allB_mem h1 hm)
        subst e1
        exact ⟨z, e.trans rm, e2⟩
      · exact ff h1
    · exact subMenus_ok D h2 t u hu
theorem Den.syms {menu : List W} {H : Hp} : ∀ {vs : List V} {ρ : Wd} {S : SS}, Den cl ρ S H → (∀ v ∈ vs, ∃ z, v = .str z ∧ W.str z ∈ menu) → ∃ ρ', Wd.le ρ ρ' ∧ ρ'.ad = ρ.ad ∧ Den cl ρ' ⟨S.ob, repM menu vs.length S.mn⟩ H ∧ RelWs cl ρ' (varsFrom S.mn.length vs.length) vs
  | [], ρ, S, D, _ => ⟨ρ, pre_refl, rfl, D, .nil⟩
  | v :: vs, ρ, S, D, h => by
    obtain ⟨z, e, hm⟩ := h v List.mem_cons_self
    subst e
    have D1 := D.sym (v := .str z) hm rfl
    obtain ⟨ρ', p, ea, D', r⟩ := Den.syms (S := pushM S menu) D1 fun u hu => h u (List.mem_cons_of_mem _ hu)
    have at0 : (ρ.know (V.str z)).sv[S.mn.length]? = some (V.str z) := by
      have := sym_at (v := V.str z) D
      rwa [lenR_eq] at this
    exact ⟨ρ', pre_know.trans p, ea, D', .cons (get_sv p at0) r⟩
/-- to such a list's state -/
theorem fam_back {cl' : CL} {ρ0 ρ : Wd} {E E0 : EE} {S S0 : SS} {σ : L2.St} {H : Hp} {iw m lo hi : Nat} {menu : List W} (hc : cl'.adr = cl.adr) (ht : cl'.tb = cl.tb) (hw : Wd.le cl'.wd ρ0) (hs : cl'.sh + m ≤ cl.sh) (hp : Wd.le ρ0 ρ) (hl : S0.ob.length = ρ0.ad.length) (hm : MnOk cl'.adr ρ0 S0.mn)
    (h2 : ssIn S0.ob.length ρ0.sv.length S0.ob = true) (h3 : eeIn S0.ob.length ρ0.sv.length E0 = true) (D : Den cl ρ S H) (re : RelE cl ρ E σ) (h : inFam iw m lo hi menu E0 S0 E S = true) :
    ∃ j ρ', lo ≤ j ∧ j ≤ hi ∧ Wd.le ρ0 ρ' ∧ RelEA cl'.adr ρ' (famE iw E0 S0) σ ∧ Den cl' ρ' (famS menu j S0) H := by
  obtain ⟨h4, h5⟩ := band h
  obtain ⟨h6, h7⟩ := band h4
  have DB := Den.back (cl := cl) (cl' := cl') (m := m) hc ht hw hs hp hl hm D h7 h2
  have RB := RelE.back (adr := cl.adr) (n := S0.ob.length) hp hl re h6 h3
  split at h5
  · rename_i p ep
    split at h5
    · rename_i xs ex
      obtain ⟨h8, h9⟩ := band h5
      obtain ⟨h10, h11⟩ := band h9
      obtain ⟨h12, h13⟩ := band h10
      have g8 := PySem.W.Z.ble_iff.mp h8
      have g12 := PySem.W.Z.ble_iff.mp h12
      have g13 := PySem.W.Z.ble_iff.mp h13
      rw [lenR_eq] at g8 g12 g13
      obtain ⟨v, ev, a, ea, rfl⟩ := RelE.get re ep
      obtain ⟨u, z1, vs, rfl, z2⟩ := D.at' _ _ _ ex ea
      have sub := subMenus_ok D h11 z2
      have lv : vs.length = xs.length := RelWs.len z2
      obtain ⟨ρ1, p1, ea1, D1, r1⟩ := Den.syms (menu := menu) DB sub
      have na : a ∉ ρ1.ad := by
        rw [ea1]
        intro hin
        obtain ⟨k, hk, e⟩ := List.getElem_of_mem hin
        have q1 : ρ0.ad[k]? = some a := by rw [List.getElem?_eq_getElem hk, e]
        have q2 := get_app hp q1
        obtain ⟨y1, y2⟩ := List.getElem?_eq_some_iff.mp q2
        obtain ⟨y3, y4⟩ := List.getElem?_eq_some_iff.mp ea
        have := (List.getElem_inj D.nd).mp (y2.trans y4.symm)
        omega
      have D2 := Den.add (o := .lst (varsFrom S0.mn.length vs.length)) D1 na z1 ⟨vs, rfl, RelWs.mono pre_app r1⟩
      have aw : (ρ1.push a).ad[lenR S0.ob]? = some a := by
        rw [push_ad, ea1, lenR_eq, hl, List.getElem?_append_right (Nat.le_refl _)]
        simp
      refine ⟨vs.length, ρ1.push a, by omega, by omega, p1.trans pre_app, ?_, ?_⟩
      · have RB' : RelEA cl'.adr (ρ1.push a) E0 σ := by
          rw [hc]
          exact RelE.mono (cl := cl) (p1.trans pre_app) RB
        unfold famE
        rw [setR_eq]
        have key : ∀ {E : EE} {σ : L2.St} (i : Nat), RelEA cl'.adr (ρ1.push a) E σ → σ[i]? = some (some (V.ref a)) → RelEA cl'.adr (ρ1.push a) (E.set i (some (.ref (lenR S0.ob)))) σ := by
          intro E σ i re
          induction re generalizing i with
          | nil => intro _; exact .nil
          | cons q t ih =>
            intro e
            cases i with
            | zero =>
              have e' := Option.some.inj (show some _ = some _ from e)
              exact .cons (fun w z => by cases z; exact ⟨_, e', a, aw, rfl⟩) t
            | succ i => exact .cons q (ih i (by simpa using e))
        exact key iw RB' ev
      · unfold famS
        rw [lenR_eq]
        exact D2
    · exact ff h5
  · exact ff h5
/-- for .. in range(n): A takes the words' list to another, B looks at it; from c words on, one more or less a turn -/
def fForFam (n M it iw c : Nat) (vs : List Nat) (menu : List W) (A B : FS) : FS := fun K E S =>
  ((eeIn (lenR S.ob) (lenR S.mn) (wipeR E (iw :: vs)) && ssIn (lenR S.ob) (lenR S.mn) (liftP (n * M) S).ob) && (isWiped (wipeR E vs) it && (isWiped (famE iw (wipeR E (iw :: vs)) (liftP (n * M) S)) it && Nat.ble n c))) &&
  ((A { nx := inFam iw M (c - 1) (c + 1) menu (wipeR E (iw :: vs)) (liftP (n * M) S), rt := fun _ _ => false, bk := fun _ _ => false, ct := fun _ _ => false } (wipeR E vs) (liftP (n * M) S) &&
    allT (fun d => A { nx := inFam iw M (c - n + d - 1) (c - n + d + 1) menu (wipeR E (iw :: vs)) (liftP (n * M) S), rt := fun _ _ => false, bk := fun _ _ => false, ct := fun _ _ => false } (famE iw (wipeR E (iw :: vs)) (liftP (n * M) S)) (famS menu (c - n + d) (liftP (n * M) S))) (2 * n)) &&
  (allT (fun d => B { nx := inFam iw 0 (c - n + d) (c - n + d) menu (wipeR E (iw :: vs)) (liftP (n * M) S), rt := fun _ _ => false, bk := fun _ _ => false, ct := fun _ _ => false } (famE iw (wipeR E (iw :: vs)) (liftP (n * M) S)) (famS menu (c - n + d) (liftP (n * M) S))) (2 * n + 1) &&
    allT (fun d => K.nx (famE iw (wipeR E (iw :: vs)) (liftP (n * M) S)) (famS menu (c - n + d) (liftP (n * M) S))) (2 * n + 1)))
/-- ahead of turn i -/
def FamP (cl : CL) (ρ : Wd) (n M iw c : Nat) (menu : List W) (Ei E0 : EE) (S0 : SS) (i : Nat) (σ : L2.St) (H : Hp) : Prop := (i = 0 ∧ RelEA cl.adr ρ Ei σ ∧ Den { cl with sh := cl.sh + n * M } ρ S0 H) ∨
  (1 ≤ i ∧ ∃ j ρ', c - i ≤ j ∧ j ≤ c + i ∧ Wd.le ρ ρ' ∧ RelEA cl.adr ρ' (famE iw E0 S0) σ ∧ Den { cl with sh := cl.sh + (n - i) * M } ρ' (famS menu j S0) H)
theorem sat_forFam {n M it iw c : Nat} {vs : List Nat} {menu : List W} {A B : FS} {tA tB : TS} (hn : n < 4611686018427387904) (hn1 : 1 ≤ n) (hA : ∀ sh, SatS { cl with sh := sh } A tA) (hB : ∀ sh, SatS { cl with sh := sh } B tB) :
    SatS cl (fForFam n M it iw c vs menu A B) (tFor (iRng1 (tCons (tC (.int (Int.ofNat n))) tNil)) (gName it) (tSeq tA tB)) := fun ρ E S σ H K D re Dn h L => by
  obtain ⟨hc1, h⟩ := band h
  obtain ⟨hc2, hc3⟩ := band hc1
  obtain ⟨h3, h4⟩ := band hc2
  obtain ⟨hw0, hc4⟩ := band hc3
  obtain ⟨hw1, hc5⟩ := band hc4
  obtain ⟨hAA, hBK⟩ := band h
  obtain ⟨hA0, hA1⟩ := band hAA
  obtain ⟨hB1, hK1⟩ := band hBK
  have hw0 := isWiped_ok hw0
  have hw1 := isWiped_ok hw1
  have hnc := PySem.W.Z.ble_iff.mp hc5
  have hlen : (liftP (n * M) S).ob.length = ρ.ad.length := by show (liftL _ S.ob).length = _; rw [liftL_len, Dn.len]
  have hS : ssIn (liftP (n * M) S).ob.length ρ.sv.length (liftP (n * M) S).ob = true := by rw [hlen, Dn.len, Dn.mn.1, ← lenR_eq, ← lenR_eq]; exact h4
  have hE : eeIn (liftP (n * M) S).ob.length ρ.sv.length (wipeR E (iw :: vs)) = true := by rw [hlen, Dn.len, Dn.mn.1, ← lenR_eq, ← lenR_eq]; exact h3
  have hm : MnOk cl.adr ρ (liftP (n * M) S).mn := Dn.mn
  refine ⟨Int.ofNat n, rfl, by have := Int.natCast_nonneg n; show -(2 ^ 62) ≤ (n : Int); omega, by show (n : Int) < 2 ^ 62; omega, ?_⟩
  refine for_range (lo := 0) (n := (Int.ofNat n).toNat) (FamP cl ρ n M iw c menu (wipeR E vs) (wipeR E (iw :: vs)) (liftP (n * M) S)) (.inl ⟨rfl, RelE.wipeR re vs, Den.lift (by simp) Dn⟩) ?_ ?_
  · rintro i σ H hi hP
    have hi' : i < n := hi
    have pow : (n - i) * M = (n - (i + 1)) * M + M := by
      rw [show n - i = (n - (i + 1)) + 1 by omega, Nat.add_mul, Nat.one_mul]
    have mid : ∀ {ρ3 : Wd} {E3 : EE} {S3 : SS} {σ3 : L2.St} {H3 : Hp} {lo hi : Nat}, c - (i + 1) ≤ lo → hi ≤ c + (i + 1) → Wd.le ρ ρ3 → Den { cl with sh := cl.sh + (n - i) * M } ρ3 S3 H3 → RelEA cl.adr ρ3 E3 σ3 →
        inFam iw M lo hi menu (wipeR E (iw :: vs)) (liftP (n * M) S) E3 S3 = true → tB { D with nx := FamP cl ρ n M iw c menu (wipeR E vs) (wipeR E (iw :: vs)) (liftP (n * M) S) (i + 1), ct := FamP cl ρ n M iw c menu (wipeR E vs) (wipeR E (iw :: vs)) (liftP (n * M) S) (i + 1), bk := D.nx } σ3 H3 := by
      intro ρ3 E3 S3 σ3 H3 lo hi q1 q2 p3 D3 re3 hh
      obtain ⟨j, ρj, a1, a2, pj, rj, Dj⟩ := fam_back (cl := { cl with sh := cl.sh + (n - i) * M }) (cl' := { cl with sh := cl.sh + (n - (i + 1)) * M }) rfl rfl Dn.ge (by show cl.sh + (n - (i + 1)) * M + M ≤ cl.sh + (n - i) * M; omega) p3 hlen hm hS hE D3 re3 hh
      have jc : c - n + (j - (c - n)) = j := by omega
      have hb := allT_get hB1 (i := j - (c - n)) (by omega)
      rw [jc] at hb
      refine hB (cl.sh + (n - (i + 1)) * M) ρj _ _ σ3 H3 _ _ rj Dj hb ⟨fun E4 S4 ρ4 σ4 H4 h4' p4 D4 re4 => ?_, fun _ _ _ _ _ hh _ _ _ => ff hh, fun _ _ _ _ _ hh _ _ _ => ff hh, fun _ _ _ _ _ hh _ _ _ => ff hh⟩
      obtain ⟨j2, ρj2, b1, b2, pj2, rj2, Dj2⟩ := fam_back (cl := { cl with sh := cl.sh + (n - (i + 1)) * M }) (cl' := { cl with sh := cl.sh + (n - (i + 1)) * M }) rfl rfl Dn.ge (Nat.le_refl _) (pj.trans p4) hlen hm hS hE D4 re4 h4'
      exact .inr ⟨by omega, j2, ρj2, by omega, by omega, pj2, rj2, Dj2⟩
    rcases hP with ⟨e, r0, D0⟩ | ⟨hi1, j, ρj, a1, a2, pj, rj, Dj⟩
    · subst e
      refine hA (cl.sh + (n - 0) * M) ρ _ _ _ H _ _ (setNone it r0 hw0) (by simpa using D0) hA0 ⟨fun E3 S3 ρ3 σ3 H3 hh p3 D3 re3 => ?_, fun _ _ _ _ _ hh _ _ _ => ff hh, fun _ _ _ _ _ hh _ _ _ => ff hh, fun _ _ _ _ _ hh _ _ _ => ff hh⟩
      exact mid (by omega) (by omega) p3 D3 re3 hh
    · have jc : c - n + (j - (c - n)) = j := by omega
      have ha := allT_get hA1 (i := j - (c - n)) (by omega)
      simp only [jc] at ha
      refine hA (cl.sh + (n - i) * M) ρj _ _ _ H _ _ (setNone it rj hw1) Dj ha ⟨fun E3 S3 ρ3 σ3 H3 hh p3 D3 re3 => ?_, fun _ _ _ _ _ hh _ _ _ => ff hh, fun _ _ _ _ _ hh _ _ _ => ff hh, fun _ _ _ _ _ hh _ _ _ => ff hh⟩
      exact mid (by omega) (by omega) (pj.trans p3) D3 re3 hh
  · rintro σ H hP
    have hn0 : (Int.ofNat n).toNat = n := rfl
    rw [hn0] at hP
    rcases hP with ⟨e, _, _⟩ | ⟨hi1, j, ρj, a1, a2, pj, rj, Dj⟩
    · omega
    · have jc : c - n + (j - (c - n)) = j := by omega
      have hk := allT_get hK1 (i := j - (c - n)) (by omega)
      rw [jc] at hk
      exact L.nx _ _ ρj σ H hk pj (Den.sh (cl := { cl with sh := cl.sh + (n - n) * M }) (Nat.le_add_right _ _) Dj) rj
end
end RX
end

set_option Elab.async false
set_option linter.all false
set_option maxRecDepth 100000
set_option maxHeartbeats 4000000
/-! RX9: kept errors asked; ints; augmented assignments; parallel ones; groups of statements. -/
noncomputable section
namespace RX
open PySem PySem.Spec PyProof.Rows L2
section
variable {cl : CL} {K : PySem.W.Frag}
/-! ### kept errors -/
structure KpF (K : PySem.W.Frag) (adr : Nat → Addr) (isX : Nat → Bool) (isK : Nat → Nat → Option Bool) (lackK : Nat → Str → Bool) : Prop where
  cls : ∀ c, isX c = true → ExcC K (adr c)
  one : ∀ c d b, isK c d = some b → PySem.W.kitOne K (.ref (adr c)) (.ref (adr d)) = some b
  no : ∀ c f, lackK c f = true → PySem.W.findIn K (.ref (adr c)) f = some none
variable {isX : Nat → Bool} {isK : Nat → Nat → Option Bool} {lackK : Nat → Str → Bool}
def xdOk (S : SS) : Option Nat → Bool
  | none => true
  | some k => match getS S k with
    | some (.xd _) => true
    | _ => false
/-- isinstance(e, d), e a kept error -/
def fIsK (isX : Nat → Bool) (isK : Nat → Nat → Option Bool) (d : Nat) (fe : FE) : FE := fun E S k => fe E S fun x S1 => match x with
  | .ref p => match getS S1 p with
    | some (.exk c dx) => match isK c d with
      | some b => (isX c && xdOk S1 dx) && k (.bl b) S1
      | none => false
    | _ => false
  | _ => false
theorem exk_rel {ρ : Wd} {S : SS} {H : Hp} (D : Den cl ρ S H) {p c : Nat} {dx : Option Nat} (e : getS S p = some (.exk c dx)) : ∃ a d, ρ.ad[p]? = some a ∧ H a = some (L2.exk a (cl.adr c) d) ∧ RelDx ρ dx d := by
  obtain ⟨a, u, h1, h2, h3⟩ := D.get e
  cases dx with
  | none => exact ⟨a, none, h1, by rw [h2, show u = L2.exk a (cl.adr c) none from h3], rfl⟩
  | some k => obtain ⟨dd, e1, e2⟩ := h3; exact ⟨a, some dd, h1, by rw [h2, e2], dd, e1, rfl⟩
theorem sat_isK (T : KpF K cl.adr isX isK lackK) {d : Nat} {fe : FE} {te : TE} (he : SatE cl fe te) : SatE cl (fIsK isX isK d fe) (tCB (rIsK K) (tCons te (tCons (tC (.ref (cl.adr d))) tNil))) := fun ρ E S σ H k Q re D h L =>
  he ρ E S σ H _ _ re D h fun x S1 ρ1 v H1 h1 p1 D1 r1 => by
    cases x with
    | ref p =>
      obtain ⟨a, ea, rfl⟩ := r1
      simp only at h1
      split at h1
      · rename_i c dx e
        split at h1
        · rename_i b eb
          obtain ⟨h2, h3⟩ := band h1
          obtain ⟨h4, h5⟩ := band h2
          obtain ⟨a', dd, z1, z2, z3⟩ := exk_rel D1 e
          rw [ea] at z1; cases z1
          refine ⟨a, cl.adr c, dd, .ref (cl.adr d), .ref (cl.adr d), b, rfl, z2, fun y hy => ?_, T.cls c h4, fun u hu => ?_, T.one c d b eb, L _ _ _ _ _ h3 p1 D1 rfl⟩
          · subst hy
            cases dx with
            | none => cases z3
            | some kk =>
              obtain ⟨y', e1, e2⟩ := z3
              cases e2
              simp only [xdOk] at h5
              split at h5
              · rename_i fs ef
                obtain ⟨u, g1, vs, rfl, _⟩ := D1.at' _ _ _ ef e1
                exact ⟨vs, g1⟩
              · exact ff h5
          · exact hu
        · exact ff h1
      · exact ff h1
    | _ => exact ff h1
/-- e.f, e a kept error -/
def fKpF (isX : Nat → Bool) (lackK : Nat → Str → Bool) (f : Str) (fe : FE) : FE := fun E S k => fe E S fun x S1 => match x with
  | .ref p => match getS S1 p with
    | some (.exk c (some dx)) => match getS S1 dx with
      | some (.xd fs) => match lookS f fs with
        | some w => (isX c && lackK c f) && k w S1
        | none => false
      | _ => false
    | _ => false
  | _ => false
theorem sat_kpF (T : KpF K cl.adr isX isK lackK) {f : Str} {fe : FE} {te : TE} (he : SatE cl fe te) : SatE cl (fKpF isX lackK f fe) (tKpF K f te) := fun ρ E S σ H k Q re D h L =>
  he ρ E S σ H _ _ re D h fun x S1 ρ1 v H1 h1 p1 D1 r1 => by
    cases x with
    | ref p =>
      obtain ⟨a, ea, rfl⟩ := r1
      simp only at h1
      split at h1
      · rename_i c dx e
        split at h1
        · rename_i fs ef
          split at h1
          · rename_i w ew
            obtain ⟨h2, h3⟩ := band h1
            obtain ⟨h4, h5⟩ := band h2
            obtain ⟨a', dd, z1, z2, y, e1, e2⟩ := exk_rel D1 e
            rw [ea] at z1; cases z1
            subst e2
            obtain ⟨u, g1, vs, rfl, g2⟩ := D1.at' _ _ _ ef e1
            obtain ⟨v, y1, y2⟩ := lookS_ok g2 ew
            exact ⟨a, cl.adr c, y, vs, v, rfl, z2, g1, y1, T.cls c h4, T.no c f h5, L _ _ _ _ _ h3 p1 D1 y2⟩
          · exact ff h1
        · exact ff h1
      · exact ff h1
    | _ => exact ff h1
/-! ### ints -/
abbrev ltB (i j : Int) : Bool := PySem.W.Z.ltB i j
theorem ltB_dec {i j : Int} : decide (i < j) = ltB i j := by
  have key : ltB i j = true ↔ i < j := PySem.W.Z.ltB_iff i j
  by_cases h : i < j
  · rw [decide_eq_true h, key.mpr h]
  · rw [decide_eq_false h]
    cases q : ltB i j with
    | false => rfl
    | true => exact absurd (key.mp q) h
abbrev leB (i j : Int) : Bool := PySem.W.Z.leB i j
theorem leB_dec {i j : Int} : decide (i ≤ j) = leB i j := by
  have key : leB i j = true ↔ i ≤ j := PySem.W.Z.leB_iff i j
  by_cases h : i ≤ j
  · rw [decide_eq_true h, key.mpr h]
  · rw [decide_eq_false h]
    cases q : leB i j with
    | false => rfl
    | true => exact absurd (key.mp q) h
def gLt : W → W → SS → KW → Bool := gResL (gResR (gI0 fun i j => .bl (ltB i j)))
def gGt : W → W → SS → KW → Bool := gResL (gResR (gI0 fun i j => .bl (ltB j i)))
def gGe : W → W → SS → KW → Bool := gResL (gResR (gI0 fun i j => .bl (leB j i)))
def gAdd : W → W → SS → KW → Bool := gResL (gResR (gI0 fun i j => .int (i + j)))
theorem sat_lt : SatO cl gLt (rI0 fun i j => .bl (decide (i < j))) := sat_resL (sat_resR (sat_I0 fun ρ i j => by show V.bl _ = V.bl _; rw [ltB_dec]))
theorem sat_gt : SatO cl gGt (rI0 fun i j => .bl (decide (j < i))) := sat_resL (sat_resR (sat_I0 fun ρ i j => by show V.bl _ = V.bl _; rw [ltB_dec]))
theorem sat_ge : SatO cl gGe (rI0 fun i j => .bl (decide (j ≤ i))) := sat_resL (sat_resR (sat_I0 fun ρ i j => by show V.bl _ = V.bl _; rw [leB_dec]))
theorem sat_add : SatO cl gAdd (rI0 fun i j => .int (i + j)) := sat_resL (sat_resR (sat_I0 fun ρ i j => rfl))
def gInt : List W → SS → KW → Bool := fun xs S k => match xs with
  | [.int i] => k (.int i) S
  | [.bl b] => k (.int (match b with
    | true => 1
    | false => 0)) S
  | _ => false
theorem sat_int1 : SatC cl gInt (fun xs H Q => (∃ i, xs = [.int i] ∧ Q (.int i) H) ∨ ∃ k, xs = [.bl k] ∧ Q (.int (if k = true then 1 else 0)) H) := fun ρ S H xs vs k Q D r h L => by
  unfold gInt at h
  split at h
  · rename_i i
    cases r with
    | cons r0 rr =>
      cases rr
      exact .inl ⟨i, by rw [show _ = V.int i from r0], L _ _ _ _ _ h pre_refl D rfl⟩
  · rename_i b
    cases r with
    | cons r0 rr =>
      cases rr
      refine .inr ⟨b, by rw [show _ = V.bl b from r0], L _ _ _ _ _ h pre_refl D ?_⟩
      cases b <;> rfl
  · exact ff h
/-! ### x += e -/
def fAug (i : Nat) (g : W → W → SS → KW → Bool) (fe : FE) : FS := fun K E S => match getR E i with
  | some (some w) => fe E S fun y S1 => g w y S1 fun z S2 => K.nx (setR E i (some z)) S2
  | _ => false
theorem sat_aug {i : Nat} {g : W → W → SS → KW → Bool} {r : R2} {fe : FE} {te : TE} (hg : SatO cl g r) (he : SatE cl fe te) : SatS cl (fAug i g fe) (tAug i te r) := fun ρ E S σ H K D re Dn h L => by
  unfold fAug at h
  split at h
  · rename_i w e
    obtain ⟨v, e', rv⟩ := re.get e
    refine ⟨v, e', he ρ E S σ H _ _ re Dn h fun y S1 ρ1 yv H1 h1 p1 D1 r1 => hg ρ1 S1 H1 w y v yv _ _ D1 (RelW.mono p1 rv) r1 h1 fun z S2 ρ2 zv H2 h2 p2 D2 r2 => ?_⟩
    exact L.nx _ _ _ _ _ h2 (p1.trans p2) D2 (RelE.set r2 i (RelE.mono (p1.trans p2) re))
  · exact ff h
/-! ### a, b = e1, e2 -/
def fPar (i j : Nat) (fa : FA) : FS := fun k E S => fa E S fun ws S1 => match ws with
  | [v, w] => k.nx (setR (setR E i (some v)) j (some w)) S1
  | _ => false
theorem sat_par {i j : Nat} {fa : FA} {ta : TA} (ha : SatA cl fa ta) : SatS cl (fPar i j fa) (tPar i j ta) := fun ρ E S σ H k D re Dn h L =>
  ha ρ E S σ H _ _ re Dn h fun ws S1 ρ1 vs H1 h1 p1 D1 r1 => by
    split at h1
    · rename_i v w
      cases r1 with
      | cons r0 rr =>
        cases rr with
        | cons r1 rr =>
          cases rr
          exact ⟨_, _, rfl, L.nx _ _ _ _ _ h1 p1 D1 (RelE.set r1 j (RelE.set r0 i (RelE.mono p1 re)))⟩
    · exact ff h1
def fExprS (f : FE) : FS := fun k E S => f E S fun _ S1 => k.nx E S1
theorem sat_expr {f : FE} {t : TE} (hf : SatE cl f t) : SatS cl (fExprS f) (tDrop t) := fun ρ E S σ H k D re Dn h L =>
  hf ρ E S σ H _ _ re Dn h fun w S1 ρ1 v H1 h1 p1 D1 r1 => L.nx _ _ _ _ _ h1 p1 D1 (RelE.mono p1 re)
/-! ### groups -/
theorem sat_as2 {f : FS} {a b r : TS} (h : SatS cl f (tSeq (tSeq a b) r)) : SatS cl f (tSeq a (tSeq b r)) := h
theorem sat_as3 {f : FS} {a b c r : TS} (h : SatS cl f (tSeq (tSeq a (tSeq b c)) r)) : SatS cl f (tSeq a (tSeq b (tSeq c r))) := h
theorem sat_as4 {f : FS} {a b c d r : TS} (h : SatS cl f (tSeq (tSeq a (tSeq b (tSeq c d))) r)) : SatS cl f (tSeq a (tSeq b (tSeq c (tSeq d r)))) := h
theorem sat_as5 {f : FS} {a b c d e r : TS} (h : SatS cl f (tSeq (tSeq a (tSeq b (tSeq c (tSeq d e)))) r)) : SatS cl f (tSeq a (tSeq b (tSeq c (tSeq d (tSeq e r))))) := h
theorem sat_for4 {f : FS} {wi : TI} {g : TG} {a b c d r : TS} (h : SatS cl f (tFor wi g (tSeq (tSeq a (tSeq b (tSeq c d))) r))) : SatS cl f (tFor wi g (tSeq a (tSeq b (tSeq c (tSeq d r))))) := h
end
end RX
end

set_option Elab.async false
set_option linter.all false
set_option maxRecDepth 100000
set_option maxHeartbeats 4000000
/-! RX10: reckonings told beforehand: at the very state that they speak of. -/
noncomputable section
namespace RX
open PySem PySem.Spec PyProof.Rows L2
section
variable {cl : CL} {K : PySem.W.Frag}
def obEqB : OB → OB → Bool
  | .lst a, .lst b => wsEq a b
  | .tup a, .tup b => wsEq a b
  | .dK a, .dK b => ksEq a b
  | .pen q b, .pen r c => Nat.beq q r && Nat.beq b c
  | .cells, .cells => true
  | .ins c a, .ins d b => Nat.beq c d && fsEq a b
  | _, _ => false
theorem obEqB_ok : ∀ {a b : OB}, obEqB a b = true → a = b
  | .lst a, .lst b, h => by rw [wsEq_ok (show wsEq a b = true from h)]
  | .tup a, .tup b, h => by rw [wsEq_ok (show wsEq a b = true from h)]
  | .dK a, .dK b, h => by rw [ksEq_ok (show ksEq a b = true from h)]
  | .pen q b, .pen r c, h => by rw [Nat.eq_of_beq_eq_true (band h).1, Nat.eq_of_beq_eq_true (band h).2]
  | .cells, .cells, _ => rfl
  | .ins c a, .ins d b, h => by rw [Nat.eq_of_beq_eq_true (band h).1, fsEq_ok (band h).2]
def obsEqB : List OB → List OB → Bool
  | [], [] => true
  | a :: l, b :: m => obEqB a b && obsEqB l m
  | _, _ => false
theorem obsEqB_ok : ∀ {a b : List OB}, obsEqB a b = true → a = b
  | [], [], _ => rfl
  | a :: l, b :: m, h => by rw [obEqB_ok (band h).1, obsEqB_ok (band h).2]
def mnsEqB : List (List W) → List (List W) → Bool
  | [], [] => true
  | a :: l, b :: m => wsEq a b && mnsEqB l m
  | _, _ => false
theorem mnsEqB_ok : ∀ {a b : List (List W)}, mnsEqB a b = true → a = b
  | [], [], _ => rfl
  | a :: l, b :: m, h => by rw [wsEq_ok (band h).1, mnsEqB_ok (band h).2]
def ssEqB (a b : SS) : Bool := obsEqB a.ob b.ob && mnsEqB a.mn b.mn
theorem ssEqB_ok {a b : SS} (h : ssEqB a b = true) : a = b := by
  cases a; cases b
  obtain ⟨h1, h2⟩ := band h
  have e1 := obsEqB_ok h1
  have e2 := mnsEqB_ok h2
  dsimp only at e1 e2
  rw [e1, e2]
def eeEqB : EE → EE → Bool
  | [], [] => true
  | none :: l, none :: m => eeEqB l m
  | some a :: l, some b :: m => wEq a b && eeEqB l m
  | _, _ => false
theorem eeEqB_ok : ∀ {a b : EE}, eeEqB a b = true → a = b
  | [], [], _ => rfl
  | none :: l, none :: m, h => by rw [eeEqB_ok (show eeEqB l m = true from h)]
  | some a :: l, some b :: m, h => by rw [wEq_ok (band h).1, eeEqB_ok (band h).2]
  | [], _ :: _, h => ff h
  | a :: _, [], h => by cases a <;> exact ff h
  | none :: _, some _ :: _, h => ff h
  | some _ :: _, none :: _, h => ff h
/-- a call that gives True, reckoned beforehand at the arguments w1 and the state S1 -/
def okTrue (M nl : Nat) (f : KX → FS) (w1 : List W) (S1 : SS) : Bool := f noX (endK fun w S2 => isTrue w && ssLe 0 S2 (liftP M S1)) (w1.map some ++ List.replicate nl none) S1
def fTrueT (M np : Nat) (w1 : List W) (S1 : SS) (fa : FA) : FE := fun E S k => fa E S fun ws S2 => (wsEq ws w1 && ssEqB S2 S1) && ((Nat.beq (lenR ws) np && ssIn (lenR S1.ob) (lenR S1.mn) (liftP M S1).ob) && k (.bl true) (liftP M S1))
theorem sat_trueT {M np nl : Nat} {f : KX → FS} {w1 : List W} {S1 : SS} (hT : okTrue M nl f w1 S1 = true) {E0' : XK} {fa : FA} {ta : TA} (ha : SatA cl fa ta) : SatE cl (fTrueT M np w1 S1 fa) (tCall (spX cl.adr cl.tb np nl f) [] E0' ta) := fun ρ E S σ H k Q re D h L =>
  ha ρ E S σ H _ _ re D h fun ws S2 ρ1 vs H1 h1 p1 D1 r1 => by
    obtain ⟨he, h9⟩ := band h1
    obtain ⟨b1, b2⟩ := band he
    have e1 := wsEq_ok b1
    have e2 := ssEqB_ok b2
    clear h1 he b1 b2 h
    subst e1 e2
    obtain ⟨h2, h7⟩ := band h9
    obtain ⟨h4, h5⟩ := band h2
    have hl := Nat.eq_of_beq_eq_true h4
    rw [lenR_eq] at hl h5
    rw [lenR_eq] at h5
    have hlen : (liftP M S2).ob.length = ρ1.ad.length := by show (liftL M S2.ob).length = _; rw [liftL_len, D1.len]
    rw [List.append_nil]
    refine spX_of (x := noX) D1 hl r1 hT (fun w S3 ρ2 v H2 hk pp D2 rw' => ?_) linkX_no
    obtain ⟨k1, k2⟩ := band hk
    cases w with
    | bl b =>
      have hb : b = true := k1
      subst hb
      obtain rfl : v = .bl true := rw'
      exact L _ _ _ _ _ h7 p1 (Den.back (cl := cl) (cl' := cl) (m := 0) rfl rfl D1.ge (Nat.le_refl _) pp hlen D1.mn D2 k2 (by rw [hlen, D1.len, D1.mn.1]; exact h5)) rfl
    | _ => exact ff k1
/-- a loop from list to list, its turns reckoned beforehand at E1, S1 -/
def famA0 (n M iw c : Nat) (vs : List Nat) (menu : List W) (A : FS) (E : EE) (S : SS) : Bool := A { nx := inFam iw M (c - 1) (c + 1) menu (wipeR E (iw :: vs)) (liftP (n * M) S), rt := fun _ _ => false, bk := fun _ _ => false, ct := fun _ _ => false } (wipeR E vs) (liftP (n * M) S)
def famA (n M iw c : Nat) (vs : List Nat) (menu : List W) (A : FS) (E : EE) (S : SS) (d : Nat) : Bool := A { nx := inFam iw M (c - n + d - 1) (c - n + d + 1) menu (wipeR E (iw :: vs)) (liftP (n * M) S), rt := fun _ _ => false, bk := fun _ _ => false, ct := fun _ _ => false } (famE iw (wipeR E (iw :: vs)) (liftP (n * M) S)) (famS menu (c - n + d) (liftP (n * M) S))
def famB (n M iw c : Nat) (vs : List Nat) (menu : List W) (B : FS) (E : EE) (S : SS) (d : Nat) : Bool := B { nx := inFam iw 0 (c - n + d) (c - n + d) menu (wipeR E (iw :: vs)) (liftP (n * M) S), rt := fun _ _ => false, bk := fun _ _ => false, ct := fun _ _ => false } (famE iw (wipeR E (iw :: vs)) (liftP (n * M) S)) (famS menu (c - n + d) (liftP (n * M) S))
theorem allT_of {f : Nat → Bool} : ∀ {n : Nat}, (∀ i, i < n → f i = true) → allT f n = true
  | 0, _ => rfl
  | n + 1, h => by
    show (f n && allT f n) = true
    rw [h n (Nat.lt_succ_self n), allT_of fun i hi => h i (Nat.lt_succ_of_lt hi)]
    rfl
def fForFamT (n M it iw c : Nat) (vs : List Nat) (menu : List W) (E1 : EE) (S1 : SS) : FS := fun K E S => (eeEqB E E1 && ssEqB S S1) && (((eeIn (lenR S1.ob) (lenR S1.mn) (wipeR E1 (iw :: vs)) && ssIn (lenR S1.ob) (lenR S1.mn) (liftP (n * M) S1).ob) && (isWiped (wipeR E1 vs) it && (isWiped (famE iw (wipeR E1 (iw :: vs)) (liftP (n * M) S1)) it && Nat.ble n c))) &&
  allT (fun d => K.nx (famE iw (wipeR E1 (iw :: vs)) (liftP (n * M) S1)) (famS menu (c - n + d) (liftP (n * M) S1))) (2 * n + 1))
theorem sat_forFamT {n M it iw c : Nat} {vs : List Nat} {menu : List W} {A B : FS} {E1 : EE} {S1 : SS} {tA tB : TS} (h0 : famA0 n M iw c vs menu A E1 S1 = true) (h1 : ∀ d, d < 2 * n → famA n M iw c vs menu A E1 S1 d = true) (h2 : ∀ d, d < 2 * n + 1 → famB n M iw c vs menu B E1 S1 d = true)
    (hn : n < 4611686018427387904) (hn1 : 1 ≤ n) (hA : ∀ sh, SatS { cl with sh := sh } A tA) (hB : ∀ sh, SatS { cl with sh := sh } B tB) :
    SatS cl (fForFamT n M it iw c vs menu E1 S1) (tFor (iRng1 (tCons (tC (.int (Int.ofNat n))) tNil)) (gName it) (tSeq tA tB)) := fun ρ E S σ H K D re Dn h L => by
  obtain ⟨he, h9⟩ := band h
  obtain ⟨b1, b2⟩ := band he
  have e1 := eeEqB_ok b1
  have e2 := ssEqB_ok b2
  clear h he b1 b2
  subst e1 e2
  obtain ⟨h3, h4⟩ := band h9
  refine sat_forFam (M := M) (iw := iw) (c := c) (vs := vs) (menu := menu) (A := A) (B := B) hn hn1 hA hB ρ E S σ H K D re Dn ?_ L
  have a1 := allT_of h1
  have a2 := allT_of h2
  unfold famA at a1
  unfold famB at a2
  unfold fForFam
  rw [h3, h4, a1, a2]
  have h0' : (A { nx := inFam iw M (c - 1) (c + 1) menu (wipeR E (iw :: vs)) (liftP (n * M) S), rt := fun _ _ => false, bk := fun _ _ => false, ct := fun _ _ => false } (wipeR E vs) (liftP (n * M) S)) = true := h0
  rw [h0']
  rfl
end
end RX
end

set_option Elab.async false
set_option linter.all false
set_option maxRecDepth 100000
set_option maxHeartbeats 4000000
/-! RX11: a part of a suite of which one new object stays; calls that give True, the arguments too not looked at again. -/
noncomputable section
namespace RX
open PySem PySem.Spec PyProof.Rows L2
section
variable {cl : CL} {K : PySem.W.Frag}
def flatMs : List (List W) → Bool
  | [] => true
  | ms :: l => allB flatW ms && flatMs l
theorem flatMs_get : ∀ {mn : List (List W)} {ms : List W}, flatMs mn = true → ms ∈ mn → allB flatW ms = true
  | a :: l, ms, h, m => by
    rcases List.mem_cons.mp m with e | m
    · rw [e]; exact (band h).1
    · exact flatMs_get (band h).2 m
theorem flat_any {adr : Nat → Addr} {ρ ρ' : Wd} {w : W} {v : V} (h : flatW w = true) (r : RelWA adr ρ w v) : RelWA adr ρ' w v := by
  cases w <;> first | exact ff h | exact r
def fKeepS (M : Nat) (vs : List Nat) (iw : Nat) (f g : FS) : FS := fun K E S => (eeIn (lenR S.ob) (lenR S.mn) (wipeR E (iw :: vs)) && ssIn (lenR S.ob) (lenR S.mn) (liftP M S).ob) &&
  f { nx := fun E' S' => (eeLe E' (wipeR E (iw :: vs)) && (ssLe 0 S' (liftP M S) && (flatMs S'.mn && (Nat.ble (lenR S.mn) (lenR S'.mn))))) && (match getR E' iw with
    | some (some (.ref p)) => match getS S' p with
      | some o => (Nat.ble (lenR S.ob) p && obIn (lenR S.ob) (lenR S'.mn) o) && g K (setR (wipeR E (iw :: vs)) iw (some (.ref (lenR S.ob)))) ⟨o :: (liftP M S).ob, S'.mn⟩
      | none => false
    | _ => false), rt := fun _ _ => false, bk := fun _ _ => false, ct := fun _ _ => false } E S
theorem ssIn_more {n j j' : Nat} (hj : j ≤ j') : ∀ {S : List OB}, ssIn n j S = true → ssIn n j' S = true := by
  have wd : ∀ {ws : List WD}, wdsIn j ws = true → wdsIn j' ws = true := by
    intro ws
    induction ws with
    | nil => intro _; rfl
    | cons a l ih =>
      intro h
      cases a with
      | lit _ => exact ih h
      | var k =>
        obtain ⟨h1, h2⟩ := band h
        have := PySem.W.Z.blt_iff.mp h1
        show (Nat.blt k j' && wdsIn j' l) = true
        rw [ih h2, PySem.W.Z.blt_iff.mpr (by omega)]
        rfl
  have w1 : ∀ {w : W}, wIn n j w = true → wIn n j' w = true := by
    intro w h
    cases w with
    | var k => exact PySem.W.Z.blt_iff.mpr (by have := PySem.W.Z.blt_iff.mp (show Nat.blt k j = true from h); omega)
    | jn ws => exact wd h
    | ref k => exact h
    | _ => rfl
  have ws : ∀ {l : List W}, wsIn n j l = true → wsIn n j' l = true := by
    intro l
    induction l with
    | nil => intro _; rfl
    | cons a l ih => intro h; obtain ⟨h1, h2⟩ := band h; show (wIn n j' a && wsIn n j' l) = true; rw [w1 h1, ih h2]; rfl
  have fs : ∀ {l : List (Str × W)}, fsIn n j l = true → fsIn n j' l = true := by
    intro l
    induction l with
    | nil => intro _; rfl
    | cons a l ih => intro h; obtain ⟨f, a⟩ := a; obtain ⟨h1, h2⟩ := band h; show (wIn n j' a && fsIn n j' l) = true; rw [w1 h1, ih h2]; rfl
  have ks : ∀ {l : List (Key × W)}, ksIn n j l = true → ksIn n j' l = true := by
    intro l
    induction l with
    | nil => intro _; rfl
    | cons a l ih => intro h; obtain ⟨f, a⟩ := a; obtain ⟨h1, h2⟩ := band h; show (wIn n j' a && ksIn n j' l) = true; rw [w1 h1, ih h2]; rfl
  intro S
  induction S with
  | nil => intro _; rfl
  | cons o l ih =>
    intro h
    obtain ⟨h1, h2⟩ := band h
    show (obIn n j' o && ssIn n j' l) = true
    rw [ih h2, Bool.and_true]
    cases o with
    | lst xs => exact ws h1
    | tup xs => exact ws h1
    | dK xs => exact ks h1
    | pen q b => exact h1
    | cells => rfl
    | ins c l => exact fs h1
    | _ => exact ff h1
theorem sat_keepS {M iw : Nat} {vs : List Nat} {f g : FS} {t u : TS} (hf : SatS cl f t) (hg : SatS cl g u) : SatS cl (fKeepS M vs iw f g) (tSeq t u) := fun ρ E S σ H K D re Dn h L => by
  obtain ⟨h1, h5⟩ := band h
  obtain ⟨h3, h4⟩ := band h1
  rw [lenR_eq, lenR_eq] at h3 h4
  have hlen : (liftP M S).ob.length = ρ.ad.length := by show (liftL M S.ob).length = _; rw [liftL_len, Dn.len]
  refine hf ρ E S σ H _ _ re Dn h5 ⟨fun E' S' ρ' σ' H' h' p' D' r' => ?_, fun _ _ _ _ _ hh _ _ _ => ff hh, fun _ _ _ _ _ hh _ _ _ => ff hh, fun _ _ _ _ _ hh _ _ _ => ff hh⟩
  obtain ⟨q, q5⟩ := band h'
  obtain ⟨q1, q2⟩ := band q
  obtain ⟨q3, q4⟩ := band q2
  obtain ⟨q6, q7⟩ := band q4
  have q7 := PySem.W.Z.ble_iff.mp q7
  rw [lenR_eq, lenR_eq] at q7
  split at q5
  · rename_i p ep
    split at q5
    · rename_i o eo
      obtain ⟨g1, g2⟩ := band q5
      obtain ⟨g3, g4⟩ := band g1
      have g3 := PySem.W.Z.ble_iff.mp g3
      rw [lenR_eq] at g3
      rw [lenR_eq, lenR_eq] at g4
      obtain ⟨v, ev, a, ea, rfl⟩ := RelE.get r' ep
      obtain ⟨u', z1, z2⟩ := D'.at' _ _ _ eo ea
      have p0 : Wd.le ρ ⟨ρ.ad, ρ'.sv⟩ := ⟨⟨[], by simp⟩, p'.2⟩
      have p1 : Wd.le ⟨ρ.ad, ρ'.sv⟩ ρ' := ⟨p'.1, [], by simp⟩
      have hm : MnOk cl.adr ⟨ρ.ad, ρ'.sv⟩ S'.mn := ⟨D'.mn.1, fun k ws e => by
        obtain ⟨v, w, b1, b2, b3⟩ := D'.mn.2 k ws e
        refine ⟨v, w, b1, b2, flat_any ?_ b3⟩
        have : ws ∈ S'.mn := by
          rw [rget_eq] at e
          exact List.mem_reverse.mp (List.mem_of_getElem? e)
        exact allB_mem (flatMs_get q6 this) b2⟩
      have svl : S.mn.length ≤ ρ'.sv.length := by rw [D'.mn.1]; exact q7
      have DB := Den.back (cl := cl) (cl' := cl) (ρ0 := ⟨ρ.ad, ρ'.sv⟩) (S0 := ⟨(liftP M S).ob, S'.mn⟩) (m := 0) rfl rfl (Dn.ge.trans p0) (Nat.le_refl _) p1 hlen hm D' q3 (by
        show ssIn (liftP M S).ob.length ρ'.sv.length _ = true
        rw [hlen, Dn.len]
        exact ssIn_more svl h4)
      have RB := RelE.back (adr := cl.adr) (ρ0 := ρ) (n := S.ob.length) p' Dn.len.symm r' q1 (by rw [Dn.mn.1]; exact h3)
      have na : a ∉ ρ.ad := by
        intro hin
        obtain ⟨k, hk, e⟩ := List.getElem_of_mem hin
        have y0 : ρ.ad[k]? = some a := by rw [List.getElem?_eq_getElem hk, e]
        have y := get_app p' y0
        obtain ⟨y1, y2⟩ := List.getElem?_eq_some_iff.mp y
        obtain ⟨y3, y4⟩ := List.getElem?_eq_some_iff.mp ea
        have := (List.getElem_inj D'.nd).mp (y2.trans y4.symm)
        have := Dn.len
        omega
      have ro : RelO cl ⟨ρ.ad, ρ'.sv⟩ a o u' := by
        have c := RelO.cut (n := S.ob.length) (j := ρ'.sv.length) (by rw [D'.mn.1]; exact g4) z2
        have e := take_eq (n := S.ob.length) p1 Dn.len.symm
        rw [show (⟨ρ.ad, ρ'.sv⟩ : Wd).sv.length = ρ'.sv.length from rfl] at e
        rw [e] at c
        exact c
      have DA := Den.add (o := o) DB na z1 (RelOA.mono pre_app ro)
      have aw : ((⟨ρ.ad, ρ'.sv⟩ : Wd).push a).ad[lenR S.ob]? = some a := by
        rw [push_ad, lenR_eq]
        show (ρ.ad ++ [a])[S.ob.length]? = some a
        rw [← Dn.len, List.getElem?_append_right (Nat.le_refl _)]
        simp
      refine hg _ _ _ σ' H' K D ?_ DA g2 (L.mono (p0.trans pre_app))
      have RB' : RelE cl ((⟨ρ.ad, ρ'.sv⟩ : Wd).push a) (wipeR E (iw :: vs)) σ' := RelE.mono (p0.trans pre_app) RB
      rw [setR_eq]
      have key : ∀ {E : EE} {σ : L2.St} (i : Nat), RelE cl ((⟨ρ.ad, ρ'.sv⟩ : Wd).push a) E σ → σ[i]? = some (some (V.ref a)) → RelE cl ((⟨ρ.ad, ρ'.sv⟩ : Wd).push a) (E.set i (some (.ref (lenR S.ob)))) σ := by
        intro E σ i re
        induction re generalizing i with
        | nil => intro _; exact .nil
        | cons q t ih =>
          intro e
          cases i with
          | zero =>
            have e' := Option.some.inj (show some _ = some _ from e)
            exact .cons (fun w z => by cases z; exact ⟨_, e', a, aw, rfl⟩) t
          | succ i => exact .cons q (ih i (by simpa using e))
      exact key iw RB' ev
    · exact ff q5
  · exact ff q5
/-! ### calls that give True: nothing behind the expression's start is looked at again -/
/-- reckoned beforehand: from S0 the arguments came to w1, S1 -/
def okTrue0 (M nl : Nat) (f : KX → FS) (S0 : SS) (w1 : List W) (S1 : SS) : Bool := f noX (endK fun w S2 => isTrue w && ssLe 0 S2 (liftP M S0)) (w1.map some ++ List.replicate nl none) S1
def fTrueT0 (M np : Nat) (S0 : SS) (w1 : List W) (S1 : SS) (fa : FA) : FE := fun E S k => ssEqB S S0 && (fa E S (fun ws S2 => wsEq ws w1 && (ssEqB S2 S1 && Nat.beq (lenR ws) np)) && (ssIn (lenR S0.ob) (lenR S0.mn) (liftP M S0).ob && k (.bl true) (liftP M S0)))
theorem sat_trueT0 {M np nl : Nat} {f : KX → FS} {S0 : SS} {w1 : List W} {S1 : SS} (hT : okTrue0 M nl f S0 w1 S1 = true) {E0' : XK} {fa : FA} {ta : TA} (ha : SatA cl fa ta) : SatE cl (fTrueT0 M np S0 w1 S1 fa) (tCall (spX cl.adr cl.tb np nl f) [] E0' ta) := fun ρ E S σ H k Q re D h L => by
  obtain ⟨b0, h1⟩ := band h
  have e0 := ssEqB_ok b0
  clear h b0
  subst e0
  obtain ⟨h2, h3⟩ := band h1
  obtain ⟨h4, h5⟩ := band h3
  refine ha ρ E S σ H _ _ re D h2 fun ws S2 ρ1 vs H1 h6 p1 D1 r1 => ?_
  obtain ⟨b1, h7⟩ := band h6
  obtain ⟨b2, b3⟩ := band h7
  have e1 := wsEq_ok b1
  have e2 := ssEqB_ok b2
  have hl := Nat.eq_of_beq_eq_true b3
  clear b1 b2 b3 h6 h7
  subst e1 e2
  rw [lenR_eq] at hl
  rw [lenR_eq, lenR_eq] at h4
  have hlen : (liftP M S).ob.length = ρ.ad.length := by show (liftL M S.ob).length = _; rw [liftL_len, D.len]
  rw [List.append_nil]
  refine spX_of (x := noX) D1 hl r1 hT (fun w S3 ρ2 v H2 hk pp D2 rw' => ?_) linkX_no
  obtain ⟨k1, k2⟩ := band hk
  cases w with
  | bl b =>
    have hb : b = true := k1
    subst hb
    obtain rfl : v = .bl true := rw'
    exact L _ _ _ _ _ h5 pre_refl (Den.back (cl := cl) (cl' := cl) (m := 0) rfl rfl D.ge (Nat.le_refl _) (p1.trans pp) hlen D.mn D2 k2 (by rw [hlen, D.len, D.mn.1]; exact h4)) rfl
  | _ => exact ff k1
end
end RX
end

set_option Elab.async false
set_option linter.all false
set_option maxRecDepth 100000
set_option maxHeartbeats 4000000
/-! RX12: a classmethod called by keywords; defs with keyword-only parameters; a def that hears a lambda. -/
namespace ClX
open PySem PySem.Spec PyProof.Rows L2
section
variable {X : Cx} {CX : CXT} {k : Nat} {C p g : Addr} {mc : Value} {fd : FuncData} {ps ks : List Str} {gg : List Value → List Value → List Value} {sp : Sp} {E : XK} {o : Expr} {kws : List Keyword} {m : Str} {pos apos : Pos} {ta : TE} {t : TA} {pl : Sem Bool}
theorem pe_cmethK (he : PE X o ta) (r : CRead X.K C mc) (c : CMet X.K C mc m p g) (F : FnOk X.prog X.w X.K X.mg X.base CX k g fd ps sp) (hr : Room k X.A) (hb : KBn X.K fd ps 1 ks gg (fun vs zs => vs ++ zs)) (hx : Passes CX X E) (hkw : PK X kws t) (hl : ∀ vs H Q, sp vs H Q E → vs.length = 1 + ks.length)
    (hall : (backToKw pos (keywordEach kws X.env)).all (·.1.isSome) = true := by rfl) (hks : (backToKw pos (keywordEach kws X.env)).filterMap (·.1) = ks := by rfl)
    (hpl : ((backTo pos (starEach [] X.env)).any (·.1) || (backToKw pos (keywordEach kws X.env)).any (·.1.isNone)) = false := by rfl)
    (ht : eval (.Call (.Attribute o m apos) [] kws pos) X.env = (do
      let ov ← eval o X.env
      standAt apos.atName
      let (f, first) ← holding [ov] (getMethod ov m pl)
      callWith pos f first (backTo pos (starEach [] X.env)) (backToKw pos (keywordEach kws X.env))) := by rfl) :
    PE X (.Call (.Attribute o m apos) [] kws pos) (tCMeth C sp E ta t) := by
  refine ⟨fun pins s σ H Q I h => ?_⟩
  refine PySem.W.methodCall_KW (pl := pl) (thn (he.run pins s σ H _ I h) fun u s1 ⟨x, H1, I1, rx, ex, q⟩ => ?_) ht
  subst ex
  obtain rfl : u = Value.ref C := rx
  refine getmethcm_ok I1 r c fun s2 I2 => ?_
  refine PySem.W.callWith_of (P := PySem.W.MethP X.K s1.heap.objs.size g (.ref C)) hpl (PySem.W.keeps_M c.fi) (evalArgs_kw2_nil hall (thn (hkw.run pos _ s2 σ H1 _ I2 q) fun us s3 ⟨vs, H2, I3, rv, q2⟩ => ⟨⟨pin_at I3, I3.kIn⟩, ?_⟩))
  rw [hks]
  have hlen : us.length = ks.length := by
    have := hl _ _ _ q2
    rw [List.length_cons, rv.length] at this
    omega
  have z : wpAny (model X.prog X.w) X.A (call (.ref s1.heap.objs.size) [] (ks.zip us)) (EP X ((s1.heap.objs.size, PySem.W.methodObj (.ref g) (.ref C)) :: pins) σ Q) X.xe s3 := by
    refine wpAny_call (PySem.W.method_call (pin_at I3) (codeAny_mono (F.run X.A X.stack s3 H2 ⟨[.ref C], ks.zip us⟩ (gg [.ref C] us) ([V.ref C] ++ vs) Q E hr I3.env0 (hb.to s3 [.ref C] us I3.kIn rfl hlen) (hb.rel (show Vals [V.ref C] [Value.ref C] from .cons rfl .nil) rv) q2) fun r s' hq => ?_))
    cases r with
    | error e => exact hx _ σ _ _ e s' I3 hq
    | ok fl =>
      cases fl with
      | ret u => exact I3.after hq
      | next => exact False.elim hq
      | brk => exact False.elim hq
      | cont => exact False.elim hq
  exact thn z fun _ _ y => unpinE y
end
end ClX
noncomputable section
namespace RX
open PySem PySem.Spec PyProof.Rows L2
theorem fn_okK {adr : Nat → Addr} {tb : List (Addr × Str)} {P : Program} {w : World} {K : PySem.W.Frag} {mg : Str → Option Value} {base : Heap} {x qual : Str} {st : Stmt} {dvs : List V} {kws : List (Str × V)} {fa : Addr} {fd : FuncData} {N ps : List Str} {k np nl : Nat} {f : KX → FS} (F : FunD K x qual (defArgs st) (defBody st) (defScope st) dvs kws fa fd) (S : FnScope N ps (defScope st))
    (h1 : ps.length = np) (h2 : N.length = np + nl)
    (hbody : ∀ (cdv : Value) (A : Around) (outer : List Env) (s : Shared) (H : Hp) (E : XK), Room k (A.deeper (envOfC qual (defScope st) s.heap.objs.size fa cdv)) →
      ∃ t, PSs (cxOf (L2.CX P w) P w K mg base N qual (defScope st) fa cdv A outer s H E) (defBody st) t ∧ ∀ sh ρ x, LinkX ⟨adr, sh, ρ, tb⟩ ρ x E → SatS ⟨adr, sh, ρ, tb⟩ (f x) t) : FnOk P w K mg base (L2.CX P w) (k + 1) fa fd ps (spX adr tb np nl f) :=
  F.ok S (fun vs H Q E h => by rw [spX_len h, h1]) fun cdv A outer s H vs Q E hr h => by
    obtain ⟨t, p, q⟩ := hbody cdv A outer s H E hr
    exact ⟨t, p, spX_run h2 q h⟩
theorem Room.keys' {k : Nat} {A : Around} (r : Room k A) : A.units + 1 < cLine := by have := r.un; omega
theorem Room.low' {k : Nat} {A : Around} (r : Room k A) : A.units < cLine := by have := r.un; omega
end RX
end

set_option Elab.async false
set_option linter.all false
set_option maxRecDepth 100000
set_option maxHeartbeats 4000000
/-! RX13: a if c else b as a test. -/
namespace L2
open PySem PySem.Spec PyProof.Rows
def tIfT (t t1 t2 : TT) : TT := fun σ H Q => t σ H fun c H1 => if c = true then t1 σ H1 Q else t2 σ H1 Q
theorem pt_ifExp {X : Cx} {c a b : Expr} {pos : Pos} {tA t1 t2 : TT} (hc : PT X c tA) (ha : PT X a t1) (hb : PT X b t2) : PT X (.IfExp c a b pos) (tIfT tA t1 t2) := by
  refine ⟨fun pins s σ H Q I h => ?_⟩
  rw [PySem.isTrue]
  refine wpAny_bind (thn (hc.run pins s σ H _ I h) fun d s1 ⟨H1, I1, q1⟩ => ?_)
  cases d with
  | true => exact ha.run pins s1 σ H1 Q I1 q1
  | false => exact hb.run pins s1 σ H1 Q I1 q1
end L2
noncomputable section
namespace RX
open PySem L2
section
variable {cl : CL}
def fIfT (c fa fb : FT) : FT := fun E S k => c E S fun b S1 => match b with
  | true => fa E S1 k
  | false => fb E S1 k
theorem sat_ifT {c fa fb : FT} {tc ta tb : TT} (hc : SatT cl c tc) (ha : SatT cl fa ta) (hb : SatT cl fb tb) : SatT cl (fIfT c fa fb) (tIfT tc ta tb) := fun ρ E S σ H k Q re D h L =>
  hc ρ E S σ H _ _ re D h fun b S1 ρ1 b' H1 h1 p1 D1 r1 => by
    subst r1
    cases b with
    | true => rw [if_pos rfl]; exact ha ρ1 E S1 σ H1 _ _ (RelE.mono p1 re) D1 h1 (L.mono p1)
    | false => rw [if_neg (by decide)]; exact hb ρ1 E S1 σ H1 _ _ (RelE.mono p1 re) D1 h1 (L.mono p1)
end
end RX
end

set_option Elab.async false
set_option linter.all false
set_option maxRecDepth 100000
set_option maxHeartbeats 4000000
/-! OwnOpsN: own ==, != and str, of defs promised at any Room. -/
namespace L2
open PySem PySem.Spec PyProof.Rows
section
variable {X : Cx} {CX : CXT} {k : Nat} {f C : Addr} {fd : FuncData} {ps : List Str} {sp : Sp} {E : XK}
/-- a def's call from below a body -/
theorem below_fnN {A : Around} {pins : List (Addr × Obj)} {σ : St} {H : Hp} {s : Shared} {Q : VK} {us : List Value} {vs : List V} (F : FnOk X.prog X.w X.K X.mg X.base CX k f fd ps sp) (hr : Room k A) (hfr : A.frames = X.A.frames) (hb : Binds X.K fd ps [])
    (hx : Passes CX X E) (I : Inv X pins σ H s) (r : Vals vs us) (h : sp vs H Q E) : wpAny (model X.prog X.w) A (call (.ref f) us) (EP X pins σ Q) X.xe s := by
  have hl : us.length = ps.length := by rw [← r.length]; exact F.len _ _ _ _ h
  have e0 : Env0 X.prog X.w X.K X.mg X.base A X.stack s H := by
    have e := I.env0
    exact ⟨by rw [hfr]; exact e.frames, e.mod, e.bs, e.bsz, e.funs, e.frf, e.hok, e.bare⟩
  refine wpAny_call (codeAny_mono (F.run A X.stack s H ⟨us, []⟩ us vs Q E hr e0 (by have := hb s us I.kIn (by simpa using hl); simpa using this) r h) fun r s' hq => ?_)
  cases r with
  | error e => exact hx pins σ H s e s' I hq
  | ok fl =>
    cases fl with
    | ret u => exact I.after hq
    | next => exact False.elim hq
    | brk => exact False.elim hq
    | cont => exact False.elim hq
theorem op_eqN (F : FnOk X.prog X.w X.K X.mg X.base CX k f fd ps sp) (hr : Room k X.A) (hb : Binds X.K fd ps []) (hx : Passes CX X E) : OpR X (compareOp .Eq) (rEqO X.K f sp E false) := by
  intro pins s σ H x y u v Q I rx ry h
  obtain ⟨a, C, dx, fs, tb, rfl, ha, ec, ty, nf, h⟩ := h
  cases rx
  obtain ⟨mA, J, _⟩ := ins_get I.hok ha
  obtain ⟨od, J, _⟩ := J.look
  obtain ⟨m, hF⟩ := I.fr
  show wpAny (model X.prog X.w) X.A (richCompare .Eq (.ref a) v) (EP X pins σ Q) X.xe s
  refine PySem.W.cmp_K (op := .Eq) (tb := tb) (by have := hr.un; omega) hF I.ok.mod.kin J (looks_ty I ry ty) nf ec.eq ec.fn ?_
  refine wpAny_mono (below_fnN F hr rfl hb hx I (.cons (show RelV (.ref a) (.ref a) from rfl) (.cons ry .nil)) h) (fun z s' q => ?_) fun _ _ e => e
  obtain ⟨w, H', I', rw', b, rfl, q⟩ := q
  cases (show z = Value.bool b from rw')
  exact ⟨.bl b, H', I', rfl, by simpa using q⟩
theorem op_neN (F : FnOk X.prog X.w X.K X.mg X.base CX k f fd ps sp) (hr : Room (k + 1) X.A) (hb : Binds X.K fd ps []) (hx : Passes CX X E) : OpR X (compareOp .NotEq) (rEqO X.K f sp E true) := by
  intro pins s σ H x y u v Q I rx ry h
  obtain ⟨a, C, dx, fs, tb, rfl, ha, ec, ty, nf, h⟩ := h
  cases rx
  obtain ⟨mA, J, _⟩ := ins_get I.hok ha
  obtain ⟨od, J, _⟩ := J.look
  obtain ⟨m, hF⟩ := I.fr
  show wpAny (model X.prog X.w) X.A (richCompare .NotEq (.ref a) v) (EP X pins σ Q) X.xe s
  refine PySem.W.ne_K (tb := tb) (by have := hr.un; omega) hF I.ok.mod.kin J (looks_ty I ry ty) nf ec.ne ec.ob ec.eq ec.fn ?_
  refine wpAny_mono (below_fnN F hr.in1 rfl hb hx I (.cons (show RelV (.ref a) (.ref a) from rfl) (.cons ry .nil)) h) (fun z s' q => ?_) fun _ _ e => e
  obtain ⟨w, H', I', rw', b, rfl, q⟩ := q
  cases (show z = Value.bool b from rw')
  exact ⟨b, rfl, .bl (!b), H', I', rfl, by simpa using q⟩
theorem call_strN (F : FnOk X.prog X.w X.K X.mg X.base CX k f fd ps sp) (hr : Room (k + 2) X.A) (hb : Binds X.K fd ps []) (hx : Passes CX X E) : CallR X (.type "str") (rStrO X.K f sp E) := by
  intro pins s σ H xs us Q I r h
  obtain ⟨a, C, dx, fs, rfl, ha, sc, h⟩ := h
  cases r with
  | cons r0 rr =>
    cases rr
    cases r0
    obtain ⟨mA, J, _⟩ := ins_get I.hok ha
    obtain ⟨od, J, _⟩ := J.look
    refine PySem.W.kso_call (by have := hr.in1.in1.un; omega) I.kIn J sc.at_ sc.fn ?_
    refine wpAny_mono (below_fnN F hr.in1.in1 rfl hb hx I (.cons (show RelV (.ref a) (.ref a) from rfl) .nil) h) (fun z s' q => ?_) fun _ _ e => e
    obtain ⟨w, H', I', rw', t, rfl, q⟩ := q
    obtain ⟨tk, rfl⟩ := (show ∃ tk, z = Value.str t tk from rw')
    exact ⟨.str t, H', I', ⟨tk, rfl⟩, q⟩
end
end L2

set_option Elab.async false
set_option linter.all false
set_option maxRecDepth 100000
set_option maxHeartbeats 4000000
/-! K8F: what decides the law, reckoned. -/
noncomputable section
namespace K8
open PySem L2 RX
def isI (c : Nat) : Bool := Nat.beq c 3
def isO (c : Nat) : Bool := Nat.beq c 3
def isE (c : Nat) : Bool := Nat.beq c 3
def isS3 (c : Nat) : Bool := Nat.beq c 3
def lacks (c : Nat) (f : Str) : Bool := Nat.beq c 3 && strEq f "told_rules"
def isX (c : Nat) : Bool := Nat.beq c 1 || Nat.beq c 2
def lackK (c : Nat) (f : Str) : Bool := (Nat.beq c 1 && strEq f "part") || (Nat.beq c 2 && (strEq f "line" || strEq f "word"))
def isS (c : Nat) : Bool := Nat.beq c 1 || Nat.beq c 2
def isK (c d : Nat) : Option Bool := match (Nat.beq c 1 || Nat.beq c 2) && (Nat.beq d 1 || Nat.beq d 2) with
  | true => some (Nat.beq c d)
  | false => none
def isT (t u : Nat) : Option Bool := match Nat.blt t 7 || Nat.beq t 13 with
  | true => match Nat.beq u 3 || Nat.beq u 13 with
    | true => some (Nat.beq t u)
    | false => none
  | false => none
def nfT (c t : Nat) : Bool := Nat.beq c 3 && (Nat.beq t 3 || Nat.beq t 6 || Nat.beq t 13)
def rulesW : List W := [.str "begin", .str "grow", .str "touch", .str "stay", .str "leave", .str "drop", .str "merge", .str "split"]
def st : STab := fun c => match c with
  | 4 => some rulesW
  | 6 => some [.str "take", .str "stretch", .str "look"]
  | 7 => some [.str "take", .str "stretch", .str "keep", .str "look"]
  | 8 => some [.str "keep", .str "take", .str "bound", .str "look"]
  | 9 => some [.str "keep", .str "bound", .str "look"]
  | 10 => some [.str "keep", .str "bound", .str "look"]
  | 11 => some [.str "keep", .str "bound", .str "look"]
  | 12 => some [.str "take", .str "bound", .str "keep", .str "look"]
  | 13 => some [.str "keep", .str "bound", .str "look"]
  | _ => none
def wd (c : Nat) (z : Str) : Option W := match Nat.beq c 5 with
  | true =>     match strEq z "begin" with
    | true => some (.cls 6)
    | false =>
    match strEq z "grow" with
    | true => some (.cls 7)
    | false =>
    match strEq z "touch" with
    | true => some (.cls 8)
    | false =>
    match strEq z "stay" with
    | true => some (.cls 9)
    | false =>
    match strEq z "leave" with
    | true => some (.cls 10)
    | false =>
    match strEq z "drop" with
    | true => some (.cls 11)
    | false =>
    match strEq z "merge" with
    | true => some (.cls 12)
    | false =>
    match strEq z "split" with
    | true => some (.cls 13)
    | false => none
  | false => none
def menu9 : List W := [.str "", .str "take", .str "stretch", .str "keep", .str "bound", .str "look", .str "none", .str "take\n", .str "Keep"]
def pm_all (zs : List W) : List W := match zs with
  | [a0, a1, a2, a3, a4, a5, a6, a7] => [a7, a6, a5, a4, a3, a2, a1, a0]
  | zs => zs
def pm_leave (zs : List W) : List W := match zs with
  | [a0] => [.str "take", .str "take", .str "keep", .str "keep", a0, .str "keep", .str "take", .str "bound"]
  | zs => zs
def pm_merge (zs : List W) : List W := match zs with
  | [a0] => [.str "take", .str "take", .str "keep", .str "keep", .str "bound", .str "keep", a0, .str "bound"]
  | zs => zs
def pm_none (_ : List W) : List W := [.str "take", .str "take", .str "keep", .str "keep", .str "bound", .str "keep", .str "take", .str "bound"]
def pm_star (zs : List W) : List W := match zs with
  | [a0, a1, a2, a3, a4, a5, a6, a7] => [a0, a1, a2, a3, a4, a5, a6, a7]
  | zs => zs
def pm_stay (zs : List W) : List W := match zs with
  | [a0] => [.str "take", .str "take", .str "keep", a0, .str "bound", .str "keep", .str "take", .str "bound"]
  | zs => zs
def S0_is : SS := ⟨[.dK [(.inr "begin", .var 0), (.inr "grow", .var 1), (.inr "touch", .var 2), (.inr "stay", .var 3), (.inr "leave", .var 4), (.inr "drop", .var 5), (.inr "merge", .var 6), (.inr "split", .var 7)], .pen 0 216, .cells], [[.str "keep", .str "bound", .str "look"], [.str "keep", .str "bound", .str "look", .str "take"], [.str "keep", .str "bound", .str "look"], [.str "keep", .str "bound", .str "look"], [.str "keep", .str "bound", .str "look"], [.str "keep", .str "bound", .str "look", .str "take"], [.str "take", .str "stretch", .str "look", .str "keep"], [.str "take", .str "stretch", .str "look"]]⟩
def W_is : List W := [.ref 3, .ref 2]
def S_is : SS := ⟨[.dK [(.inr "begin", .var 0), (.inr "grow", .var 1), (.inr "touch", .var 2), (.inr "stay", .var 3), (.inr "leave", .var 4), (.inr "drop", .var 5), (.inr "merge", .var 6), (.inr "split", .var 7)], .tup [.str "split", .var 7], .tup [.str "merge", .var 6], .tup [.str "drop", .var 5], .tup [.str "leave", .var 4], .tup [.str "stay", .var 3], .tup [.str "touch", .var 2], .tup [.str "grow", .var 1], .tup [.str "begin", .var 0], .tup [.var 0, .var 1, .var 2, .var 3, .var 4, .var 5, .var 6, .var 7], .ins 3 [("told_rules", .ref 13)], .dK [(.inr "begin", .var 0), (.inr "grow", .var 1), (.inr "touch", .var 2), (.inr "stay", .var 3), (.inr "leave", .var 4), (.inr "drop", .var 5), (.inr "merge", .var 6), (.inr "split", .var 7)], .pen 0 216, .cells], [[.str "keep", .str "bound", .str "look"], [.str "keep", .str "bound", .str "look", .str "take"], [.str "keep", .str "bound", .str "look"], [.str "keep", .str "bound", .str "look"], [.str "keep", .str "bound", .str "look"], [.str "keep", .str "bound", .str "look", .str "take"], [.str "take", .str "stretch", .str "look", .str "keep"], [.str "take", .str "stretch", .str "look"]]⟩
def S0_bent : SS := ⟨[.dK [(.inr "begin", .var 0), (.inr "grow", .var 1), (.inr "touch", .var 2), (.inr "stay", .var 3), (.inr "leave", .var 4), (.inr "drop", .var 5), (.inr "merge", .var 6), (.inr "split", .var 7)], .pen 0 216, .cells], [[.str "keep", .str "bound", .str "look"], [.str "keep", .str "bound", .str "look", .str "take"], [.str "keep", .str "bound", .str "look"], [.str "keep", .str "bound", .str "look"], [.str "keep", .str "bound", .str "look"], [.str "keep", .str "bound", .str "look", .str "take"], [.str "take", .str "stretch", .str "look", .str "keep"], [.str "take", .str "stretch", .str "look"]]⟩
def W_bent : List W := [.ref 1, .ref 2]
def S_bent : SS := ⟨[.dK [(.inr "begin", .var 0), (.inr "grow", .var 1), (.inr "touch", .var 2), (.inr "stay", .var 3), (.inr "leave", .var 4), (.inr "drop", .var 5), (.inr "merge", .var 6), (.inr "split", .var 7)], .pen 0 216, .cells], [[.str "keep", .str "bound", .str "look"], [.str "keep", .str "bound", .str "look", .str "take"], [.str "keep", .str "bound", .str "look"], [.str "keep", .str "bound", .str "look"], [.str "keep", .str "bound", .str "look"], [.str "keep", .str "bound", .str "look", .str "take"], [.str "take", .str "stretch", .str "look", .str "keep"], [.str "take", .str "stretch", .str "look"]]⟩
def S0_text : SS := ⟨[.dK [(.inr "begin", .var 0), (.inr "grow", .var 1), (.inr "touch", .var 2), (.inr "stay", .var 3), (.inr "leave", .var 4), (.inr "drop", .var 5), (.inr "merge", .var 6), (.inr "split", .var 7)], .pen 0 221, .cells], [[.str "keep", .str "bound", .str "look"], [.str "keep", .str "bound", .str "look", .str "take"], [.str "keep", .str "bound", .str "look"], [.str "keep", .str "bound", .str "look"], [.str "keep", .str "bound", .str "look"], [.str "keep", .str "bound", .str "look", .str "take"], [.str "take", .str "stretch", .str "look", .str "keep"], [.str "take", .str "stretch", .str "look"]]⟩
def W_text : List W := [.ref 1, .ref 2]
def S_text : SS := ⟨[.dK [(.inr "begin", .var 0), (.inr "grow", .var 1), (.inr "touch", .var 2), (.inr "stay", .var 3), (.inr "leave", .var 4), (.inr "drop", .var 5), (.inr "merge", .var 6), (.inr "split", .var 7)], .pen 0 221, .cells], [[.str "keep", .str "bound", .str "look"], [.str "keep", .str "bound", .str "look", .str "take"], [.str "keep", .str "bound", .str "look"], [.str "keep", .str "bound", .str "look"], [.str "keep", .str "bound", .str "look"], [.str "keep", .str "bound", .str "look", .str "take"], [.str "take", .str "stretch", .str "look", .str "keep"], [.str "take", .str "stretch", .str "look"]]⟩
def E1_text : EE := [some (.ref 1), some (.ref 2), some (.ref 4), none, none, none, none, none, none, none, none, none]
def S1_text : SS := ⟨[.lst [.var 0, .var 1, .var 2, .var 3, .var 4, .var 5, .var 6, .var 7], .lst [.str "begin", .str "grow", .str "touch", .str "stay", .str "leave", .str "drop", .str "merge", .str "split"], .dK [(.inr "begin", .var 0), (.inr "grow", .var 1), (.inr "touch", .var 2), (.inr "stay", .var 3), (.inr "leave", .var 4), (.inr "drop", .var 5), (.inr "merge", .var 6), (.inr "split", .var 7)], .pen 0 221, .cells], [[.str "keep", .str "bound", .str "look"], [.str "keep", .str "bound", .str "look", .str "take"], [.str "keep", .str "bound", .str "look"], [.str "keep", .str "bound", .str "look"], [.str "keep", .str "bound", .str "look"], [.str "keep", .str "bound", .str "look", .str "take"], [.str "take", .str "stretch", .str "look", .str "keep"], [.str "take", .str "stretch", .str "look"]]⟩
def f_words_of (x : KX) : FS := (fSeq (fIfS (fNot (fB (fIsi isO isT 3 (fVar 0)))) (fRaise x 2 ["line", "word"] (fCons (fC (.int 0)) (fCons (fC (.int 0)) fNil))) fNext) (fRet (fSplit (fVar 0))))
def f_word_at (x : KX) : FS := (fSeq (fIfS (fB (fOp (gEqV false) (fVar 1) (fCB gLen (fCons (fVar 0) fNil)))) (fRaise x 2 ["line", "word"] (fCons (fC (.int 0)) (fCons (fVar 1) fNil))) fNext) (fRet (fOp (gResR (gIxS noST)) (fVar 0) (fVar 1))))
def f_check_end (x : KX) : FS := (fIfS (fB (fOp gLt (fVar 1) (fCB gLen (fCons (fVar 0) fNil)))) (fRaise x 2 ["line", "word"] (fCons (fC (.int 0)) (fCons (fVar 1) fNil))) fNext)
def f_is_word_of (x : KX) : FS := (fRet (fAndV (fIsi isO isT 3 (fVar 1)) (fOp (gInS st false) (fVar 1) (fIxW wd (fC (.cls 5)) (fVar 0)))))
def f_upkeep_parts (x : KX) : FS := (fSeq (fAsg fDNew (gfName 2)) (fSeq (fFor 40 (fiTup st (fC (.cls 4))) (gfName 3) (fSeq (fAsg (fCall x 2 0 f_word_at (fCons (fVar 0) (fCons (fVar 1) fNil))) (gfName 4)) (fSeq (fIfS (fNot (fB (fCall noX 2 0 f_is_word_of (fCons (fVar 3) (fCons (fVar 4) fNil))))) (fRaise x 2 ["line", "word"] (fCons (fC (.int 0)) (fCons (fVar 1) fNil))) fNext) (fSeq (fDPut (fVar 2) (fVar 3) (fVar 4)) (fAug 1 gAdd (fC (.int 1))))))) (fRet (fTup (fCons (fVar 2) (fCons (fVar 1) fNil))))))
def f_Upkeep_init (x : KX) : FS := (fSeq (fAsg (fTup (fCons (fVar 1) (fCons (fVar 2) (fCons (fVar 3) (fCons (fVar 4) (fCons (fVar 5) (fCons (fVar 6) (fCons (fVar 7) (fCons (fVar 8) fNil))))))))) (gfName 9)) (fSeq (fFor 40 (fiZip st (fCons (fC (.cls 4)) (fCons (fVar 9) fNil))) (gfTup 2 (gfCons (gfName 10) (gfCons (gfName 11) gfNil))) (fIfS (fNot (fB (fCall noX 2 0 f_is_word_of (fCons (fVar 10) (fCons (fVar 11) fNil))))) (fRaise x 1 ["part"] (fCons (fVar 10) fNil)) fNext)) (fSetF isI lacks "told_rules" (fVar 0) (fDictZip st (fCons (fC (.cls 4)) (fCons (fVar 9) fNil))))))
def f_Upkeep_rules (x : KX) : FS := (fRet (fDc 40 (fiTup st (fC (.cls 4))) (gfName 1) (fun _ S k => k true S) (fVar 1) (fDGet (fFld isI lacks "told_rules" (fVar 0)) (fVar 1)) [1]))
def f_Upkeep_eq (x : KX) : FS := (fRet (fAndV (fIsi isO isT 13 (fVar 1)) (fOp (gEqDB false) (fFld isI lacks "told_rules" (fVar 0)) (fFld isI lacks "told_rules" (fVar 1)))))
def f_Upkeep_str (x : KX) : FS := (fRet (fJoin (fLc 40 (fiTup st (fC (.cls 4))) (gfName 1) (fun _ S k => k true S) (fDGet (fFld isI lacks "told_rules" (fVar 0)) (fVar 1)) [1])))
def f_Upkeep_read (x : KX) : FS := (fSeq (fAsg (fCall x 1 0 f_words_of (fCons (fVar 1) fNil)) (gfName 2)) (fSeq (fAsg (fCall x 2 3 f_upkeep_parts (fCons (fVar 2) (fCons (fC (.int 0)) fNil))) (gfTup 2 (gfCons (gfName 3) (gfCons (gfName 4) gfNil)))) (fSeq (fExprS (fCall x 2 0 f_check_end (fCons (fVar 2) (fCons (fVar 4) fNil)))) (fRet (fStarMk x 3 9 3 ["begin", "grow", "touch", "stay", "leave", "drop", "merge", "split"] f_Upkeep_init pm_star (fVar 0) (fVar 3))))))
def f_law_rules (x : KX) : FS := (fRet (fLst (fCons (fC (.str "begin")) (fCons (fC (.str "grow")) (fCons (fC (.str "touch")) (fCons (fC (.str "stay")) (fCons (fC (.str "leave")) (fCons (fC (.str "drop")) (fCons (fC (.str "merge")) (fCons (fC (.str "split")) fNil))))))))))
def f_law_words (x : KX) : FS := (fSeq (fIfS (fB (fOp (gInS noST false) (fVar 0) (fTup (fCons (fC (.str "begin")) (fCons (fC (.str "grow")) fNil))))) (fRet (fOp gCat (fLst (fCons (fC (.str "take")) (fCons (fC (.str "stretch")) (fCons (fC (.str "look")) fNil)))) (fIf (fB (fOp (gEqV false) (fVar 0) (fC (.str "grow")))) (fLst (fCons (fC (.str "keep")) fNil)) (fLst fNil)))) fNext) (fRet (fOp gCat (fLst (fCons (fC (.str "keep")) (fCons (fC (.str "bound")) (fCons (fC (.str "look")) fNil)))) (fIf (fB (fOp (gInS noST false) (fVar 0) (fTup (fCons (fC (.str "touch")) (fCons (fC (.str "merge")) fNil))))) (fLst (fCons (fC (.str "take")) fNil)) (fLst fNil)))))
def f_law_book (x : KX) : FS := (fRet (fMkK x 3 9 3 8 f_Upkeep_init pm_all (fCons (fDGet (fVar 0) (fC (.str "split"))) (fCons (fDGet (fVar 0) (fC (.str "merge"))) (fCons (fDGet (fVar 0) (fC (.str "drop"))) (fCons (fDGet (fVar 0) (fC (.str "leave"))) (fCons (fDGet (fVar 0) (fC (.str "stay"))) (fCons (fDGet (fVar 0) (fC (.str "touch"))) (fCons (fDGet (fVar 0) (fC (.str "grow"))) (fCons (fDGet (fVar 0) (fC (.str "begin"))) fNil))))))))))
def f_heard : FS := (fSeq (fIfS (fB (fOp (gIsN false) (fVar 1) (fC .non))) (fRet (fLst (fCons (fVar 2) fNil))) fNext) (fSeq (fIfS (fB (fIsK isX isK 1 (fVar 1))) (fRet (fTup (fCons (fC (.str "upkeep")) (fCons (fKpF isX lackK "part" (fVar 1)) fNil)))) fNext) (fRet (fIf (fB (fIsK isX isK 2 (fVar 1))) (fTup (fCons (fC (.str "text")) (fCons (fKpF isX lackK "line" (fVar 1)) (fCons (fKpF isX lackK "word" (fVar 1)) fNil)))) (fTup (fCons (fC (.str "odd")) fNil))))))
def f_law_is (x : KX) : FS := (fSeq (fAsg (fJoin (fLc 40 (fiLst (fCall noX 0 0 f_law_rules fNil)) (gfName 3) (fun _ S k => k true S) (fDGet (fVar 1) (fVar 3)) [3])) (gfName 2)) (fSeq (fIfS (fOr (fNot (fB (fIsi isO isT 13 (fVar 0)))) (fB (fOp (gEqD true) (fItems (fProp 3 1 f_Upkeep_rules (fVar 0))) (fLc 40 (fiLst (fCall noX 0 0 f_law_rules fNil)) (gfName 3) (fun _ S k => k true S) (fTup (fCons (fVar 3) (fCons (fDGet (fVar 1) (fVar 3)) fNil))) [3])))) (fRet (fC (.bl false))) fNext) (fSeq (fAsg (fProp 3 1 f_Upkeep_rules (fVar 0)) (gfName 4)) (fSeq (fDPut (fVar 4) (fC (.str "grow")) (fC (.str "none"))) (fSeq (fIfS (fOr (fB (fOp (gEqDB true) (fProp 3 1 f_Upkeep_rules (fVar 0)) (fVar 1))) (fOr (fB (fOp (gEqV true) (fCB (gStrO isS3 1 f_Upkeep_str) (fCons (fVar 0) fNil)) (fVar 2))) (fOr (fB (fOp (gEqO isO isE nfT true 0 f_Upkeep_eq) (fCMeth noX 3 2 3 f_Upkeep_read (fCons (fVar 2) fNil)) (fVar 0))) (fB (fOp (gEqO isO isE nfT true 0 f_Upkeep_eq) (fCMeth noX 3 2 3 f_Upkeep_read (fCons (fVar 2) fNil)) (fVar 0)))))) (fRet (fC (.bl false))) fNext) (fRet (fAndV (fOp (gEqO isO isE nfT false 0 f_Upkeep_eq) (fVar 0) (fCall noX 1 0 f_law_book (fCons (fVar 1) fNil))) (fAndV (fOp (gEqO isO isE nfT true 0 f_Upkeep_eq) (fVar 0) (fVar 1)) (fOp (gEqO isO isE nfT true 0 f_Upkeep_eq) (fVar 0) (fVar 2))))))))))
def f_law_bent_right (x : KX) : FS := (fSeq (fAsg (fCall noX 0 0 f_law_rules fNil) (gfName 2)) (fSeq (fAsg (fTup (fCons (fDraw true (fCons (fVar 0) (fCons (fC (.int 8)) fNil))) (fCons (fDraw true (fCons (fVar 0) (fCons (fC (.int 8)) fNil))) fNil))) (gfTup 2 (gfCons (gfName 3) (gfCons (gfName 4) gfNil)))) (fCut 2 [5, 6, 7] (fSeq (fAsg (fCB gDictD (fCons (fVar 1) fNil)) (gfName 5)) (fSeq (fDPut (fVar 5) (fOp (gResR (gIxS noST)) (fVar 2) (fVar 4)) (fPick (fCons (fVar 0) (fCons (fLst (fCons (fC .non) (fCons (fC (.int 0)) (fCons (fC (.str "")) (fCons (fC (.str "Take")) (fCons (fC (.str "takes")) (fCons (fTup (fCons (fC (.str "take")) fNil)) (fCons (fLst (fCons (fC (.str "keep")) fNil)) (fCons (fC (.bl true)) (fCons (fC (.str "stretch look")) (fCons fDNew fNil))))))))))) fNil)))) (fSeq (fAsg (fLc 40 (fiLst (fLst (fCons (fC (.str "take")) (fCons (fC (.str "stretch")) (fCons (fC (.str "keep")) (fCons (fC (.str "bound")) (fCons (fC (.str "look")) fNil))))))) (gfName 7) (fB (fOp (gInS noST true) (fVar 7) (fCall noX 1 0 f_law_words (fCons (fOp (gResR (gIxS noST)) (fVar 2) (fVar 3)) fNil)))) (fVar 7) [7]) (gfName 6)) (fSeq (fDPut (fVar 5) (fOp (gResR (gIxS noST)) (fVar 2) (fVar 3)) (fPick (fCons (fVar 0) (fCons (fOp gCat (fVar 6) (fLst (fCons (fC (.str "")) (fCons (fC (.str "none")) fNil)))) fNil)))) (fIfS (fB (fOp (gEqD true) (fHeard isS 4 1 2 3 f_heard fun x => (fCall x 1 0 f_law_book (fCons (fVar 5) fNil))) (fTup (fCons (fC (.str "upkeep")) (fCons (fOp (gResR (gIxS noST)) (fVar 2) (fIf (fB (fOp gLt (fVar 3) (fVar 4))) (fVar 3) (fVar 4))) fNil))))) (fRet (fC (.bl false))) fNext))))) (fSeq (fAsg (fCB gDictD (fCons (fVar 1) fNil)) (gfName 8)) (fSeq (fDPut (fVar 8) (fOp (gResR (gIxS noST)) (fVar 2) (fVar 3)) (fPick (fCons (fVar 0) (fCons (fLc 40 (fiLst (fCall noX 1 0 f_law_words (fCons (fOp (gResR (gIxS noST)) (fVar 2) (fVar 3)) fNil))) (gfName 7) (fB (fOp (gEqV true) (fVar 7) (fDGet (fVar 1) (fOp (gResR (gIxS noST)) (fVar 2) (fVar 3))))) (fVar 7) [7]) fNil)))) (fRet (fAndV (fOp (gEqO isO isE nfT true 0 f_Upkeep_eq) (fCall noX 1 0 f_law_book (fCons (fVar 8) fNil)) (fCall noX 1 0 f_law_book (fCons (fVar 1) fNil))) (fTrueC 0 2 3 f_law_is (fCons (fCall noX 1 0 f_law_book (fCons (fVar 8) fNil)) (fCons (fVar 8) fNil))))))))))
def f_textA : FS := (fSeq (fPar 5 6 (fCons (fDraw false (fCons (fVar 0) (fCons (fC (.int 9)) fNil))) (fCons (fDraw false (fCons (fVar 0) (fCons (fC (.int 4)) fNil))) fNil))) (fSeq (fAsg (fPick (fCons (fVar 0) (fCons (fLst (fCons (fC (.str "")) (fCons (fC (.str "take")) (fCons (fC (.str "stretch")) (fCons (fC (.str "keep")) (fCons (fC (.str "bound")) (fCons (fC (.str "look")) (fCons (fC (.str "none")) (fCons (fC (.str "take\n")) (fCons (fC (.str "Keep")) fNil)))))))))) fNil))) (gfName 7)) (fSeq (fAsg (fOp gCat (fOp gCat (fSl (fVar 2) fNoPart (fPart (fVar 5))) (fIf (fB (fOp gGt (fVar 6) (fC (.int 0)))) (fLst (fCons (fVar 7) fNil)) (fLst fNil))) (fSl (fVar 2) (fPart (fOp gAdd (fVar 5) (fCB gInt (fCons (fOp (gEqV true) (fVar 6) (fC (.int 1))) fNil)))) fNoPart)) (gfName 2)) (fAsg (fIf (fB (fOp (gEqD true) (fVar 2) (fLst fNil))) (fVar 2) (fLst (fCons (fC (.str "")) fNil))) (gfName 2)))))
def f_textB : FS := (fSeq (fAsg (fLc 40 (fiRng1 (fCons (fC (.int 8)) fNil)) (gfName 9) (fOr (fB (fOp gGe (fVar 9) (fCB gLen (fCons (fVar 2) fNil)))) (fB (fOp (gInS noST true) (fOp (gResR (gIxS noST)) (fVar 2) (fVar 9)) (fCall noX 1 0 f_law_words (fCons (fOp (gResR (gIxS noST)) (fCall noX 0 0 f_law_rules fNil) (fVar 9)) fNil))))) (fVar 9) [9]) (gfName 8)) (fSeq (fAsg (fIf (fB (fOp (gEqD true) (fVar 8) (fLst fNil))) (fOp (gResR (gIxS noST)) (fVar 8) (fC (.int 0))) (fIf (fB (fOp gGt (fCB gLen (fCons (fVar 2) fNil)) (fC (.int 8)))) (fC (.int 8)) (fC .non))) (gfName 10)) (fSeq (fAsg (fHeard isS 4 1 2 3 f_heard fun x => (fCMeth x 3 2 3 f_Upkeep_read (fCons (fJoin (fVar 2)) fNil))) (gfName 11)) (fIfS (fIfT (fB (fOp (gIsN true) (fVar 10) (fC .non))) (fB (fOp (gEqD true) (fVar 11) (fTup (fCons (fC (.str "text")) (fCons (fC (.int 0)) (fCons (fVar 10) fNil)))))) (fB (fOp (gEqV true) (fCB (gStrO isS3 1 f_Upkeep_str) (fCons (fOp (gResR (gIxS noST)) (fVar 11) (fC (.int 0))) fNil)) (fJoin (fVar 2))))) (fRet (fC (.bl false))) fNext))))
def f_law_text_right (x : KX) : FS := (fSeq (fAsg (fLc 40 (fiLst (fCall noX 0 0 f_law_rules fNil)) (gfName 3) (fun _ S k => k true S) (fDGet (fVar 1) (fVar 3)) [3]) (gfName 2)) (fSeq (fForFamT 4 3 4 2 8 [4, 5, 6, 7, 8, 10, 11, 9] menu9 E1_text S1_text) (fSeq (fAsg (fPick (fCons (fVar 0) (fCons (fLst (fCons (fC .non) (fCons (fC (.int 0)) (fCons (fC (.bl true)) (fCons (fVar 2) (fCons (fCB gTupOf (fCons (fVar 2) fNil)) (fCons fDNew (fCons (fMkK noX 3 9 3 0 f_Upkeep_init pm_none fNil) fNil)))))))) fNil))) (gfName 7)) (fRet (fOp (gEqD false) (fHeard isS 4 1 2 3 f_heard fun x => (fCMeth x 3 2 3 f_Upkeep_read (fCons (fVar 7) fNil))) (fTup (fCons (fC (.str "text")) (fCons (fC (.int 0)) (fCons (fC (.int 0)) fNil)))))))))
def f_rest (x : KX) : FS := (fSeq (fForV 8 26 2 [2, 3, 4] (fKeepS 8 [4] 3 (fAsg (fCB gDictP (fCons (fLc 40 (fiLst (fCall noX 0 0 f_law_rules fNil)) (gfName 4) (fun _ S k => k true S) (fTup (fCons (fVar 4) (fCons (fPick (fCons (fVar 1) (fCons (fCall noX 1 0 f_law_words (fCons (fVar 4) fNil)) fNil))) fNil))) [4]) fNil)) (gfName 3)) (fSeq (fIfS (fOr (fNot (fB (fTrueT0 0 2 S0_is W_is S_is (fCons (fCall noX 1 0 f_law_book (fCons (fVar 3) fNil)) (fCons (fVar 3) fNil))))) (fOr (fNot (fB (fTrueT0 5 2 S0_bent W_bent S_bent (fCons (fVar 1) (fCons (fVar 3) fNil))))) (fNot (fB (fTrueT0 13 2 S0_text W_text S_text (fCons (fVar 1) (fCons (fVar 3) fNil))))))) (fRet (fC (.bl false))) fNext) (fIfS (fOr (fB (fOp (gEqV true) (fDGet (fProp 3 1 f_Upkeep_rules (fMkK noX 3 9 3 1 f_Upkeep_init pm_stay (fCons (fDGet (fVar 3) (fC (.str "stay"))) fNil))) (fC (.str "stay"))) (fDGet (fVar 3) (fC (.str "stay"))))) (fB (fOp (gEqV true) (fDGet (fProp 3 1 f_Upkeep_rules (fMkK noX 3 9 3 1 f_Upkeep_init pm_merge (fCons (fDGet (fVar 3) (fC (.str "merge"))) fNil))) (fC (.str "begin"))) (fC (.str "take"))))) (fRet (fC (.bl false))) fNext)))) (fRet (fAndV (fOp (gEqV false) (fCB (gStrO isS3 1 f_Upkeep_str) (fCons (fMkK noX 3 9 3 0 f_Upkeep_init pm_none fNil) fNil)) (fC (.str "take take keep keep bound keep take bound"))) (fOp (gEqO isO isE nfT false 0 f_Upkeep_eq) (fMkK noX 3 9 3 0 f_Upkeep_init pm_none fNil) (fMkK noX 3 9 3 1 f_Upkeep_init pm_leave (fCons (fC (.str "bound")) fNil))))))
def S0 : SS := ⟨[.pen 0 0, .cells], []⟩
def kEnd : KS := endK fun w _ => isTrue w
def E0 : EE := [none, some (.ref 1)] ++ List.replicate 3 none
end K8
end

set_option maxRecDepth 1000000
set_option linter.all false
/-! K8T: the law, reckoned by the kernel. -/
namespace K8
open RX
theorem ok_isT : okTrue0 0 3 f_law_is S0_is W_is S_is = true := by decide +kernel
theorem ok_bentT : okTrue0 5 7 f_law_bent_right S0_bent W_bent S_bent = true := by decide +kernel
theorem famA0T : famA0 4 3 2 8 [4, 5, 6, 7, 8, 10, 11, 9] menu9 f_textA E1_text S1_text = true := by decide +kernel
theorem famA_0 : famA 4 3 2 8 [4, 5, 6, 7, 8, 10, 11, 9] menu9 f_textA E1_text S1_text 0 = true := by decide +kernel
theorem famA_1 : famA 4 3 2 8 [4, 5, 6, 7, 8, 10, 11, 9] menu9 f_textA E1_text S1_text 1 = true := by decide +kernel
theorem famA_2 : famA 4 3 2 8 [4, 5, 6, 7, 8, 10, 11, 9] menu9 f_textA E1_text S1_text 2 = true := by decide +kernel
theorem famA_3 : famA 4 3 2 8 [4, 5, 6, 7, 8, 10, 11, 9] menu9 f_textA E1_text S1_text 3 = true := by decide +kernel
theorem famA_4 : famA 4 3 2 8 [4, 5, 6, 7, 8, 10, 11, 9] menu9 f_textA E1_text S1_text 4 = true := by decide +kernel
theorem famA_5 : famA 4 3 2 8 [4, 5, 6, 7, 8, 10, 11, 9] menu9 f_textA E1_text S1_text 5 = true := by decide +kernel
theorem famA_6 : famA 4 3 2 8 [4, 5, 6, 7, 8, 10, 11, 9] menu9 f_textA E1_text S1_text 6 = true := by decide +kernel
theorem famA_7 : famA 4 3 2 8 [4, 5, 6, 7, 8, 10, 11, 9] menu9 f_textA E1_text S1_text 7 = true := by decide +kernel
theorem famB_0 : famB 4 3 2 8 [4, 5, 6, 7, 8, 10, 11, 9] menu9 f_textB E1_text S1_text 0 = true := by decide +kernel
theorem famB_1 : famB 4 3 2 8 [4, 5, 6, 7, 8, 10, 11, 9] menu9 f_textB E1_text S1_text 1 = true := by decide +kernel
theorem famB_2 : famB 4 3 2 8 [4, 5, 6, 7, 8, 10, 11, 9] menu9 f_textB E1_text S1_text 2 = true := by decide +kernel
theorem famB_3 : famB 4 3 2 8 [4, 5, 6, 7, 8, 10, 11, 9] menu9 f_textB E1_text S1_text 3 = true := by decide +kernel
theorem famB_4 : famB 4 3 2 8 [4, 5, 6, 7, 8, 10, 11, 9] menu9 f_textB E1_text S1_text 4 = true := by decide +kernel
theorem famB_5 : famB 4 3 2 8 [4, 5, 6, 7, 8, 10, 11, 9] menu9 f_textB E1_text S1_text 5 = true := by decide +kernel
theorem famB_6 : famB 4 3 2 8 [4, 5, 6, 7, 8, 10, 11, 9] menu9 f_textB E1_text S1_text 6 = true := by decide +kernel
theorem famB_7 : famB 4 3 2 8 [4, 5, 6, 7, 8, 10, 11, 9] menu9 f_textB E1_text S1_text 7 = true := by decide +kernel
theorem famB_8 : famB 4 3 2 8 [4, 5, 6, 7, 8, 10, 11, 9] menu9 f_textB E1_text S1_text 8 = true := by decide +kernel
theorem famAT : ∀ d, d < 2 * 4 → famA 4 3 2 8 [4, 5, 6, 7, 8, 10, 11, 9] menu9 f_textA E1_text S1_text d = true
  | 0, _ => famA_0
  | 1, _ => famA_1
  | 2, _ => famA_2
  | 3, _ => famA_3
  | 4, _ => famA_4
  | 5, _ => famA_5
  | 6, _ => famA_6
  | 7, _ => famA_7
  | d + 8, h => absurd h (by omega)
theorem famBT : ∀ d, d < 2 * 4 + 1 → famB 4 3 2 8 [4, 5, 6, 7, 8, 10, 11, 9] menu9 f_textB E1_text S1_text d = true
  | 0, _ => famB_0
  | 1, _ => famB_1
  | 2, _ => famB_2
  | 3, _ => famB_3
  | 4, _ => famB_4
  | 5, _ => famB_5
  | 6, _ => famB_6
  | 7, _ => famB_7
  | 8, _ => famB_8
  | d + 9, h => absurd h (by omega)
theorem ok_textT : okTrue0 13 10 f_law_text_right S0_text W_text S_text = true := by decide +kernel
theorem law_true : f_rest noX kEnd E0 S0 = true := by decide +kernel
end K8

set_option Elab.async false
set_option linter.all false
set_option maxRecDepth 100000
set_option maxHeartbeats 4000000
/-! K8P: the defs of the law and of the program, by rules, and what decides them. -/
namespace K8
open PySem PySem.Spec PyProof.Rows L2 RX
def top (i : Nat) : Stmt := PySem.Challenge.pw_headskip_k83_rule_books_made.main.body.getD i (.Pass ⟨0, 0, 0, 0⟩)
theorem sat_cls {cl : CL} {c : Nat} : SatE cl (fC (.cls c)) (tC (.ref (cl.adr c))) := sat_c fun _ => rfl
def arr_all {α : Type} (ms ws : List α) : List α := match ms, ws with
  | [], [a0, a1, a2, a3, a4, a5, a6, a7] => [a7, a6, a5, a4, a3, a2, a1, a0]
  | _, ws => ws
def pv_all (zs : List V) : List V := arr_all [] zs
theorem pm_all_rel {cl : CL} : ∀ (ρ : Wd) (us : List W) (vs : List V), RelWs cl ρ us vs → RelWs cl ρ (pm_all us) (pv_all vs)
  | _, [], _, .nil => .nil
  | _, [_], _, (.cons r0 .nil) => (.cons r0 .nil)
  | _, [_, _], _, (.cons r0 (.cons r1 .nil)) => (.cons r0 (.cons r1 .nil))
  | _, [_, _, _], _, (.cons r0 (.cons r1 (.cons r2 .nil))) => (.cons r0 (.cons r1 (.cons r2 .nil)))
  | _, [_, _, _, _], _, (.cons r0 (.cons r1 (.cons r2 (.cons r3 .nil)))) => (.cons r0 (.cons r1 (.cons r2 (.cons r3 .nil))))
  | _, [_, _, _, _, _], _, (.cons r0 (.cons r1 (.cons r2 (.cons r3 (.cons r4 .nil))))) => (.cons r0 (.cons r1 (.cons r2 (.cons r3 (.cons r4 .nil)))))
  | _, [_, _, _, _, _, _], _, (.cons r0 (.cons r1 (.cons r2 (.cons r3 (.cons r4 (.cons r5 .nil)))))) => (.cons r0 (.cons r1 (.cons r2 (.cons r3 (.cons r4 (.cons r5 .nil))))))
  | _, [_, _, _, _, _, _, _], _, (.cons r0 (.cons r1 (.cons r2 (.cons r3 (.cons r4 (.cons r5 (.cons r6 .nil))))))) => (.cons r0 (.cons r1 (.cons r2 (.cons r3 (.cons r4 (.cons r5 (.cons r6 .nil)))))))
  | _, [_, _, _, _, _, _, _, _], _, (.cons r0 (.cons r1 (.cons r2 (.cons r3 (.cons r4 (.cons r5 (.cons r6 (.cons r7 .nil)))))))) => (.cons r7 (.cons r6 (.cons r5 (.cons r4 (.cons r3 (.cons r2 (.cons r1 (.cons r0 .nil))))))))
  | _, _ :: _ :: _ :: _ :: _ :: _ :: _ :: _ :: _ :: _, _, (.cons r0 (.cons r1 (.cons r2 (.cons r3 (.cons r4 (.cons r5 (.cons r6 (.cons r7 (.cons r8 t))))))))) => (.cons r0 (.cons r1 (.cons r2 (.cons r3 (.cons r4 (.cons r5 (.cons r6 (.cons r7 (.cons r8 t)))))))))
theorem pm_all_cons (a : V) (zs : List V) : (fun vs zs => vs ++ pv_all zs) [a] zs = a :: pv_all zs := rfl
def arr_leave {α : Type} (ms ws : List α) : List α := match ms, ws with
  | [m0, m1, m2, m3, m4, m5, m6], [a0] => [m0, m1, m2, m3, a0, m4, m5, m6]
  | _, ws => ws
def pv_leave (zs : List V) : List V := arr_leave [.str "take", .str "take", .str "keep", .str "keep", .str "keep", .str "take", .str "bound"] zs
theorem pm_leave_rel {cl : CL} : ∀ (ρ : Wd) (us : List W) (vs : List V), RelWs cl ρ us vs → RelWs cl ρ (pm_leave us) (pv_leave vs)
  | _, [], _, .nil => .nil
  | _, [_], _, (.cons r0 .nil) => (.cons rfl (.cons rfl (.cons rfl (.cons rfl (.cons r0 (.cons rfl (.cons rfl (.cons rfl .nil))))))))
  | _, _ :: _ :: _, _, (.cons r0 (.cons r1 t)) => (.cons r0 (.cons r1 t))
theorem pm_leave_cons (a : V) (zs : List V) : (fun vs zs => vs ++ pv_leave zs) [a] zs = a :: pv_leave zs := rfl
def arr_merge {α : Type} (ms ws : List α) : List α := match ms, ws with
  | [m0, m1, m2, m3, m4, m5, m6], [a0] => [m0, m1, m2, m3, m4, m5, a0, m6]
  | _, ws => ws
def pv_merge (zs : List V) : List V := arr_merge [.str "take", .str "take", .str "keep", .str "keep", .str "bound", .str "keep", .str "bound"] zs
theorem pm_merge_rel {cl : CL} : ∀ (ρ : Wd) (us : List W) (vs : List V), RelWs cl ρ us vs → RelWs cl ρ (pm_merge us) (pv_merge vs)
  | _, [], _, .nil => .nil
  | _, [_], _, (.cons r0 .nil) => (.cons rfl (.cons rfl (.cons rfl (.cons rfl (.cons rfl (.cons rfl (.cons r0 (.cons rfl .nil))))))))
  | _, _ :: _ :: _, _, (.cons r0 (.cons r1 t)) => (.cons r0 (.cons r1 t))
theorem pm_merge_cons (a : V) (zs : List V) : (fun vs zs => vs ++ pv_merge zs) [a] zs = a :: pv_merge zs := rfl
def arr_none {α : Type} (ms ws : List α) : List α := match ms, ws with
  | [m0, m1, m2, m3, m4, m5, m6, m7], _ => [m0, m1, m2, m3, m4, m5, m6, m7]
  | _, ws => ws
def pv_none (zs : List V) : List V := arr_none [.str "take", .str "take", .str "keep", .str "keep", .str "bound", .str "keep", .str "take", .str "bound"] zs
theorem pm_none_rel {cl : CL} : ∀ (ρ : Wd) (us : List W) (vs : List V), RelWs cl ρ us vs → RelWs cl ρ (pm_none us) (pv_none vs)
  | ρ, _, _, _ => show RelWs cl ρ [.str "take", .str "take", .str "keep", .str "keep", .str "bound", .str "keep", .str "take", .str "bound"] [.str "take", .str "take", .str "keep", .str "keep", .str "bound", .str "keep", .str "take", .str "bound"] from .cons rfl (.cons rfl (.cons rfl (.cons rfl (.cons rfl (.cons rfl (.cons rfl (.cons rfl (.nil))))))))
theorem pm_none_cons (a : V) (zs : List V) : (fun vs zs => vs ++ pv_none zs) [a] zs = a :: pv_none zs := rfl
def arr_star {α : Type} (ms ws : List α) : List α := match ms, ws with
  | [], [a0, a1, a2, a3, a4, a5, a6, a7] => [a0, a1, a2, a3, a4, a5, a6, a7]
  | _, ws => ws
def pv_star (zs : List V) : List V := arr_star [] zs
theorem pm_star_rel {cl : CL} : ∀ (ρ : Wd) (us : List W) (vs : List V), RelWs cl ρ us vs → RelWs cl ρ (pm_star us) (pv_star vs)
  | _, [], _, .nil => .nil
  | _, [_], _, (.cons r0 .nil) => (.cons r0 .nil)
  | _, [_, _], _, (.cons r0 (.cons r1 .nil)) => (.cons r0 (.cons r1 .nil))
  | _, [_, _, _], _, (.cons r0 (.cons r1 (.cons r2 .nil))) => (.cons r0 (.cons r1 (.cons r2 .nil)))
  | _, [_, _, _, _], _, (.cons r0 (.cons r1 (.cons r2 (.cons r3 .nil)))) => (.cons r0 (.cons r1 (.cons r2 (.cons r3 .nil))))
  | _, [_, _, _, _, _], _, (.cons r0 (.cons r1 (.cons r2 (.cons r3 (.cons r4 .nil))))) => (.cons r0 (.cons r1 (.cons r2 (.cons r3 (.cons r4 .nil)))))
  | _, [_, _, _, _, _, _], _, (.cons r0 (.cons r1 (.cons r2 (.cons r3 (.cons r4 (.cons r5 .nil)))))) => (.cons r0 (.cons r1 (.cons r2 (.cons r3 (.cons r4 (.cons r5 .nil))))))
  | _, [_, _, _, _, _, _, _], _, (.cons r0 (.cons r1 (.cons r2 (.cons r3 (.cons r4 (.cons r5 (.cons r6 .nil))))))) => (.cons r0 (.cons r1 (.cons r2 (.cons r3 (.cons r4 (.cons r5 (.cons r6 .nil)))))))
  | _, [_, _, _, _, _, _, _, _], _, (.cons r0 (.cons r1 (.cons r2 (.cons r3 (.cons r4 (.cons r5 (.cons r6 (.cons r7 .nil)))))))) => (.cons r0 (.cons r1 (.cons r2 (.cons r3 (.cons r4 (.cons r5 (.cons r6 (.cons r7 .nil))))))))
  | _, _ :: _ :: _ :: _ :: _ :: _ :: _ :: _ :: _ :: _, _, (.cons r0 (.cons r1 (.cons r2 (.cons r3 (.cons r4 (.cons r5 (.cons r6 (.cons r7 (.cons r8 t))))))))) => (.cons r0 (.cons r1 (.cons r2 (.cons r3 (.cons r4 (.cons r5 (.cons r6 (.cons r7 (.cons r8 t)))))))))
theorem pm_star_cons (a : V) (zs : List V) : (fun vs zs => vs ++ pv_star zs) [a] zs = a :: pv_star zs := rfl
def arr_stay {α : Type} (ms ws : List α) : List α := match ms, ws with
  | [m0, m1, m2, m3, m4, m5, m6], [a0] => [m0, m1, m2, a0, m3, m4, m5, m6]
  | _, ws => ws
def pv_stay (zs : List V) : List V := arr_stay [.str "take", .str "take", .str "keep", .str "bound", .str "keep", .str "take", .str "bound"] zs
theorem pm_stay_rel {cl : CL} : ∀ (ρ : Wd) (us : List W) (vs : List V), RelWs cl ρ us vs → RelWs cl ρ (pm_stay us) (pv_stay vs)
  | _, [], _, .nil => .nil
  | _, [_], _, (.cons r0 .nil) => (.cons rfl (.cons rfl (.cons rfl (.cons r0 (.cons rfl (.cons rfl (.cons rfl (.cons rfl .nil))))))))
  | _, _ :: _ :: _, _, (.cons r0 (.cons r1 t)) => (.cons r0 (.cons r1 t))
theorem pm_stay_cons (a : V) (zs : List V) : (fun vs zs => vs ++ pv_stay zs) [a] zs = a :: pv_stay zs := rfl
structure Txt (K : PySem.W.Frag) (mg : Str → Option Value) (adr : Nat → Addr) : Prop where
  m_SkipError : mg "SkipError" = some (.ref (adr 0))
  m_BadUpkeep : mg "BadUpkeep" = some (.ref (adr 1))
  m_BadText : mg "BadText" = some (.ref (adr 2))
  m_Upkeep : mg "Upkeep" = some (.ref (adr 3))
  m_RULES : mg "RULES" = some (.ref (adr 4))
  m_WORDS : mg "WORDS" = some (.ref (adr 5))
  z_len : mg "len" = none
  z_range : mg "range" = none
  z_isinstance : mg "isinstance" = none
  z_list : mg "list" = none
  z_int : mg "int" = none
  z_abs : mg "abs" = none
  z_tuple : mg "tuple" = none
  z_str : mg "str" = none
  z_dict : mg "dict" = none
  z_zip : mg "zip" = none
structure DefB (K : PySem.W.Frag) (mg : Str → Option Value) (x : Str) (fa : Addr) (fd : FuncData) (ps : List Str) : Prop where
  m : mg x = some (.ref fa)
  k : PySem.W.keepIn K (.ref fa) = true
  b : Binds K fd ps []
/-- an own error's class whose __init__ keeps its arguments -/
structure ErrX (P : Program) (w : World) (K : PySem.W.Frag) (mg : Str → Option Value) (base : Heap) (adr : Nat → Addr) (c : Nat) (fI : Addr) (fd : FuncData) (ps names : List Str) : Prop where
  T : OexC K (adr c)
  i : PySem.W.findIn K (.ref (adr c)) "__init__" = some (some (.ref fI))
  t : PySem.W.typeIn K (.ref fI) = some (.type "function")
  F : FnOk P w K mg base (L2.CX P w) 1 fI fd ps (spKeep K names)
  b : Binds K fd ps []
  nf : ∀ f ∈ names, PySem.W.findIn K (.ref (adr c)) f = some none
/-- the class Upkeep, made -/
structure UpK (P : Program) (w : World) (K : PySem.W.Frag) (mg : Str → Option Value) (base : Heap) (adr : Nat → Addr) (tb : List (Addr × Str)) (k : Nat) (fI : Addr) (fd : FuncData) : Prop where
  M : Mk K (adr 3) fI
  F : FnOk P w K mg base (L2.CX P w) k fI fd ["self", "begin", "grow", "touch", "stay", "leave", "drop", "merge", "split"] (spX adr tb 9 3 f_Upkeep_init)
  pm_all : ∃ g, KBn K fd ["self", "begin", "grow", "touch", "stay", "leave", "drop", "merge", "split"] 1 ["split", "merge", "drop", "leave", "stay", "touch", "grow", "begin"] g (fun vs zs => vs ++ pv_all zs)
  pm_leave : ∃ g, KBn K fd ["self", "begin", "grow", "touch", "stay", "leave", "drop", "merge", "split"] 1 ["leave"] g (fun vs zs => vs ++ pv_leave zs)
  pm_merge : ∃ g, KBn K fd ["self", "begin", "grow", "touch", "stay", "leave", "drop", "merge", "split"] 1 ["merge"] g (fun vs zs => vs ++ pv_merge zs)
  pm_none : ∃ g, KBn K fd ["self", "begin", "grow", "touch", "stay", "leave", "drop", "merge", "split"] 1 [] g (fun vs zs => vs ++ pv_none zs)
  pm_star : ∃ g, KBn K fd ["self", "begin", "grow", "touch", "stay", "leave", "drop", "merge", "split"] 1 ["begin", "grow", "touch", "stay", "leave", "drop", "merge", "split"] g (fun vs zs => vs ++ pv_star zs)
  pm_stay : ∃ g, KBn K fd ["self", "begin", "grow", "touch", "stay", "leave", "drop", "merge", "split"] 1 ["stay"] g (fun vs zs => vs ++ pv_stay zs)
/-- its property rules -/
structure UpP (P : Program) (w : World) (K : PySem.W.Frag) (mg : Str → Option Value) (base : Heap) (adr : Nat → Addr) (tb : List (Addr × Str)) (k : Nat) (p g : Addr) (fd : FuncData) : Prop where
  c : Cls K (adr 3)
  p : PropOf K (adr 3) "rules" p g
  F : FnOk P w K mg base (L2.CX P w) k g fd ["self"] (spX adr tb 1 1 f_Upkeep_rules)
  b : Binds K fd ["self"] []
/-- its == and str -/
structure UpO (P : Program) (w : World) (K : PySem.W.Frag) (mg : Str → Option Value) (base : Heap) (adr : Nat → Addr) (tb : List (Addr × Str)) (fE : Addr) (dE : FuncData) (fS : Addr) (dS : FuncData) : Prop where
  eq : FnOk P w K mg base (L2.CX P w) 1 fE dE ["self", "other"] (spX adr tb 2 0 f_Upkeep_eq)
  be : Binds K dE ["self", "other"] []
  str : FnOk P w K mg base (L2.CX P w) 1 fS dS ["self"] (spX adr tb 1 1 f_Upkeep_str)
  bs : Binds K dS ["self"] []
/-- its classmethod read -/
structure UpR (P : Program) (w : World) (K : PySem.W.Frag) (mg : Str → Option Value) (base : Heap) (adr : Nat → Addr) (tb : List (Addr × Str)) (k : Nat) (p g : Addr) (fd : FuncData) : Prop where
  r : ClX.CRead K (adr 3) (.type "type")
  c : ClX.CMet K (adr 3) (.type "type") "read" p g
  F : FnOk P w K mg base (L2.CX P w) k g fd ["cls", "text"] (spX adr tb 2 3 f_Upkeep_read)
  b : Binds K fd ["cls", "text"] []
  bk : ∃ gg, KBn K fd ["cls", "text"] 1 ["text"] gg (fun vs zs => vs ++ zs)
theorem UpR.R {P : Program} {w : World} {K : PySem.W.Frag} {mg : Str → Option Value} {base : Heap} {adr : Nat → Addr} {tb : List (Addr × Str)} {k : Nat} {p g : Addr} {fd : FuncData} (U : UpR P w K mg base adr tb k p g fd) : FnR P w K mg base (L2.CX P w) k g (spX adr tb 2 3 f_Upkeep_read) :=
  (U.F.raw U.b .nil).imp fun vs H Q E h => by rw [List.append_nil]; exact h
section
variable {P : Program} {w : World} {K : PySem.W.Frag} {mg : Str → Option Value} {base : Heap} {adr : Nat → Addr} {tb : List (Addr × Str)}
abbrev s__law_pen : Stmt := top 17
abbrev s__law_draw : Stmt := top 18
abbrev s__law_pick : Stmt := top 19
abbrev s__law_heard : Stmt := top 20
abbrev s_law : Stmt := top 27
abbrev s_words_of : Stmt := top 6
abbrev s_word_at : Stmt := top 7
abbrev s_check_end : Stmt := top 8
abbrev s_is_word_of : Stmt := top 12
abbrev s_upkeep_parts : Stmt := top 13
abbrev s_Upkeep_init : Stmt := inClass (top 15) 0
abbrev s_Upkeep_rules : Stmt := inClass (top 15) 1
abbrev s_Upkeep_eq : Stmt := inClass (top 15) 2
abbrev s_Upkeep_str : Stmt := inClass (top 15) 3
abbrev s_Upkeep_read : Stmt := inClass (top 15) 4
abbrev s__law_rules : Stmt := top 21
abbrev s__law_words : Stmt := top 22
abbrev s__law_book : Stmt := top 23
abbrev s__law_is : Stmt := top 24
abbrev s__law_bent_right : Stmt := top 25
abbrev s__law_text_right : Stmt := top 26
abbrev NH : List Str := ["_law_ask", "_law_caught", "_law_found", "error"]
theorem sc__law_heard : FnScope NH ["_law_ask"] (defScope s__law_heard) := ⟨rfl, rfl, rfl, by decide +kernel, rfl, by decide +kernel, by decide +kernel⟩
def qB : Str := (("_law_bent_right" : Str) ++ ".<locals>.") ++ "<lambda>"
def qT : Str := (("_law_text_right" : Str) ++ ".<locals>.") ++ "<lambda>"
def rJoin (K : PySem.W.Frag) : V → List V → Hp → VK → Prop := fun x xs H Q => ∃ a p, ∃ ys : List Str, x = .str a ∧ xs = [.ref p] ∧ (SqL K H p (ys.map V.str) ∨ SqT K H p (ys.map V.str)) ∧ (ys.map (·.length)).sum + ys.length * a.length ≤ 16777216 ∧ Q (.str (Txt.join a ys)) H
/-- what _law_heard does behind its try -/
def trH (K : PySem.W.Frag) (adr : Nat → Addr) : TS := tSeq (tIfS (tTest (tOp (fun x y H Q => y = .non ∧ Q (.bl (decide (x = .non))) H) (tVar 1) (tC .non))) (tRet (tLst (tCons (tVar 2) tNil))) tNext) (tSeq (tIfS (tB (tCB (rIsK K) (tCons (tVar 1) (tCons (tC (.ref (adr 1))) tNil)))) (tRet (tTup (tCons (tC (.str "upkeep")) (tCons (tKpF K "part" (tVar 1)) tNil)))) tNext) (tRet (tIf (tB (tCB (rIsK K) (tCons (tVar 1) (tCons (tC (.ref (adr 2))) tNil)))) (tTup (tCons (tC (.str "text")) (tCons (tKpF K "line" (tVar 1)) (tCons (tKpF K "word" (tVar 1)) tNil)))) (tTup (tCons (tC (.str "odd")) tNil)))))
/-- a def whose code object is told -/
structure FunC (K : PySem.W.Frag) (x qual : Str) (st : Stmt) (f : Addr) (fd : FuncData) (c : Addr) : Prop where
  ex : ∃ (oc : Value) (od : Option Addr) (kV doc pm : Value) (an : Option Addr) (ct : Value) (osl : Array (Option Value)),
    fd = PySem.W.fnOf x qual (defArgs st) (defBody st) (defScope st) .none kV doc pm an (.ref c) ct ∧ K.lookup f = some ⟨oc, od, .func fd, osl⟩ ∧ PySem.W.codeIn K (.ref c) qual = true
  kp : PySem.W.keepIn K (.ref f) = true
theorem fn_okC {adr : Nat → Addr} {tb : List (Addr × Str)} {x qual : Str} {st : Stmt} {fa c : Addr} {fd : FuncData} {N ps : List Str} {k np nl : Nat} {f : KX → FS} (F : FunC K x qual st fa fd c) (S : FnScope N ps (defScope st))
    (h1 : ps.length = np) (h2 : N.length = np + nl)
    (hbody : ∀ (A : Around) (outer : List Env) (s : Shared) (H : Hp) (E : XK), Room k (A.deeper (envOfC qual (defScope st) s.heap.objs.size fa (.ref c))) →
      ∃ t, PSs (cxOf (L2.CX P w) P w K mg base N qual (defScope st) fa (.ref c) A outer s H E) (defBody st) t ∧ ∀ sh ρ x, LinkX ⟨adr, sh, ρ, tb⟩ ρ x E → SatS ⟨adr, sh, ρ, tb⟩ (f x) t) : FnOk P w K mg base (L2.CX P w) (k + 1) fa fd ps (spX adr tb np nl f) := by
  obtain ⟨oc, od, kV, doc, pm, an, ct, osl, rfl, lk, hcd⟩ := F.ex
  refine fn_of lk hcd S (fun vs H Q E h => by rw [spX_len h, h1]) fun A outer s H vs Q E hr h => ?_
  obtain ⟨t, p, q⟩ := hbody A outer s H E hr
  exact ⟨t, p, spX_run h2 q h⟩
def kwsU : List (Str × V) := [("begin", .str "take"), ("grow", .str "take"), ("touch", .str "keep"), ("stay", .str "keep"), ("leave", .str "bound"), ("drop", .str "keep"), ("merge", .str "take"), ("split", .str "bound")]
theorem sc_words_of : FnScope ["text"] ["text"] (defScope s_words_of) := ⟨rfl, rfl, rfl, by decide +kernel, rfl, by decide +kernel, by decide +kernel⟩
theorem ok_words_of {i_BadText : Addr} {j_BadText : FuncData} {fa : Addr} {fd : FuncData} (T : Txt K mg adr) (XT : IsF K adr isO isT) (XX_BadText : ErrX P w K mg base adr 2 i_BadText j_BadText ["self", "line", "word"] ["line", "word"]) (F : L2.Fun K "words_of" "words_of" s_words_of fa fd) : FnOk P w K mg base (L2.CX P w) 3 fa fd ["text"] (spX adr tb 1 0 f_words_of) := by
  exact fn_ok0 (k := 2) F sc_words_of rfl rfl fun cdv A outer s H E hr => ⟨_, (pss_cons (ps_if (pt_not (pt_val (pe_callB call_isi (by rfl) T.z_isinstance (by decide +kernel) (pa_cons (pv 0) (pa_cons (pe_bltn (v := .ty "str") (by rfl) T.z_str (by decide +kernel) rfl) pa_nil))))) (pss_one (ps_raise rfl (takes_of rfl rfl rfl rfl) (pmk_oex XX_BadText.T XX_BadText.i XX_BadText.t XX_BadText.F (hr.mono (by decide)) XX_BadText.b .nil passL (by rfl) T.m_BadText (pa_cons pe_int (pa_cons pe_int pa_nil))))) pss_nil) (pss_one (ps_ret (pe_split (pv 0) pe_str)))), fun sh ρ x hx => (sat_seq (sat_ifS (sat_not (sat_b (sat_isi XT (.ty _) sat_var))) (sat_raise hx XX_BadText.T XX_BadText.nf (by decide) (sat_cons sat_int (sat_cons sat_int sat_nil))) sat_next) (sat_ret (sat_split sat_var)))⟩
theorem sc_word_at : FnScope ["words", "at"] ["words", "at"] (defScope s_word_at) := ⟨rfl, rfl, rfl, by decide +kernel, rfl, by decide +kernel, by decide +kernel⟩
theorem ok_word_at {i_BadText : Addr} {j_BadText : FuncData} {fa : Addr} {fd : FuncData} (T : Txt K mg adr) (XX_BadText : ErrX P w K mg base adr 2 i_BadText j_BadText ["self", "line", "word"] ["line", "word"]) (F : L2.Fun K "word_at" "word_at" s_word_at fa fd) : FnOk P w K mg base (L2.CX P w) 3 fa fd ["words", "at"] (spX adr tb 2 0 f_word_at) := by
  exact fn_ok0 (k := 2) F sc_word_at rfl rfl fun cdv A outer s H E hr => ⟨_, (pss_cons (ps_if (pt_cmpR op_eq (pv 1) (pe_callB call_len_seq (by rfl) T.z_len PySem.boot_len (pa_cons (pv 0) pa_nil)) (nomark _)) (pss_one (ps_raise rfl (takes_of rfl rfl rfl rfl) (pmk_oex XX_BadText.T XX_BadText.i XX_BadText.t XX_BadText.F (hr.mono (by decide)) XX_BadText.b .nil passL (by rfl) T.m_BadText (pa_cons pe_int (pa_cons (pv 1) pa_nil))))) pss_nil) (pss_one (ps_ret (pe_ix ix_seq (pv 0) (pv 1) (fun _ _ => rfl))))), fun sh ρ x hx => (sat_seq (sat_ifS (sat_test (sat_op sat_eqV sat_var (sat_cb sat_len_seq (sat_cons sat_var sat_nil)))) (sat_raise hx XX_BadText.T XX_BadText.nf (by decide) (sat_cons sat_int (sat_cons sat_var sat_nil))) sat_next) (sat_ret (sat_op (sat_resR (sat_ixS noST_ok)) sat_var sat_var)))⟩
theorem sc_check_end : FnScope ["words", "at"] ["words", "at"] (defScope s_check_end) := ⟨rfl, rfl, rfl, by decide +kernel, rfl, by decide +kernel, by decide +kernel⟩
theorem ok_check_end {i_BadText : Addr} {j_BadText : FuncData} {fa : Addr} {fd : FuncData} (T : Txt K mg adr) (XX_BadText : ErrX P w K mg base adr 2 i_BadText j_BadText ["self", "line", "word"] ["line", "word"]) (F : L2.Fun K "check_end" "check_end" s_check_end fa fd) : FnOk P w K mg base (L2.CX P w) 3 fa fd ["words", "at"] (spX adr tb 2 0 f_check_end) := by
  exact fn_ok0 (k := 2) F sc_check_end rfl rfl fun cdv A outer s H E hr => ⟨_, (pss_one (ps_if (pt_cmpR op_lt (pv 1) (pe_callB call_len_seq (by rfl) T.z_len PySem.boot_len (pa_cons (pv 0) pa_nil)) (nomark _)) (pss_one (ps_raise rfl (takes_of rfl rfl rfl rfl) (pmk_oex XX_BadText.T XX_BadText.i XX_BadText.t XX_BadText.F (hr.mono (by decide)) XX_BadText.b .nil passL (by rfl) T.m_BadText (pa_cons pe_int (pa_cons (pv 1) pa_nil))))) pss_nil)), fun sh ρ x hx => (sat_ifS (sat_test (sat_op sat_lt sat_var (sat_cb sat_len_seq (sat_cons sat_var sat_nil)))) (sat_raise hx XX_BadText.T XX_BadText.nf (by decide) (sat_cons sat_int (sat_cons sat_var sat_nil))) sat_next)⟩
theorem sc_is_word_of : FnScope ["rule", "word"] ["rule", "word"] (defScope s_is_word_of) := ⟨rfl, rfl, rfl, by decide +kernel, rfl, by decide +kernel, by decide +kernel⟩
theorem ok_is_word_of {fa : Addr} {fd : FuncData} (T : Txt K mg adr) (XT : IsF K adr isO isT) (XS : STOk K adr st) (XW : WDOk K w adr wd) (F : L2.Fun K "is_word_of" "is_word_of" s_is_word_of fa fd) : FnOk P w K mg base (L2.CX P w) 1 fa fd ["rule", "word"] (spX adr tb 2 0 f_is_word_of) := by
  exact fn_ok0 (k := 0) F sc_is_word_of rfl rfl fun cdv A outer s H E hr => ⟨_, (pss_one (ps_ret (pe_and (pe_callB call_isi (by rfl) T.z_isinstance (by decide +kernel) (pa_cons (pv 1) (pa_cons (pe_bltn (v := .ty "str") (by rfl) T.z_str (by decide +kernel) rfl) pa_nil))) (pe_one (pe_cmpR op_in_seq (pv 1) (pe_ixDX rfl (takes_of rfl rfl rfl rfl) (pe_glob (v := .ref (adr 5)) (by rfl) T.m_WORDS rfl) (pv 0) (fun _ _ => rfl)) (by rfl)))))), fun sh ρ x hx => (sat_ret (sat_andV (sat_isi XT (.ty _) sat_var) (sat_op (sat_inS XS) sat_var (sat_ixW XW sat_cls sat_var))))⟩
theorem sc_upkeep_parts : FnScope ["words", "at", "found", "rule", "word"] ["words", "at"] (defScope s_upkeep_parts) := ⟨rfl, rfl, rfl, by decide +kernel, rfl, by decide +kernel, by decide +kernel⟩
theorem ok_upkeep_parts {i_BadText : Addr} {j_BadText : FuncData} {a_word_at : Addr} {d_word_at : FuncData} {a_is_word_of : Addr} {d_is_word_of : FuncData} {fa : Addr} {fd : FuncData} (T : Txt K mg adr) (XS : STOk K adr st) (XX_BadText : ErrX P w K mg base adr 2 i_BadText j_BadText ["self", "line", "word"] ["line", "word"]) (G_word_at : FnOk P w K mg base (L2.CX P w) 3 a_word_at d_word_at ["words", "at"] (spX adr tb 2 0 f_word_at)) (B_word_at : DefB K mg "word_at" a_word_at d_word_at ["words", "at"]) (G_is_word_of : FnOk P w K mg base (L2.CX P w) 1 a_is_word_of d_is_word_of ["rule", "word"] (spX adr tb 2 0 f_is_word_of)) (B_is_word_of : DefB K mg "is_word_of" a_is_word_of d_is_word_of ["rule", "word"]) (F : L2.Fun K "upkeep_parts" "upkeep_parts" s_upkeep_parts fa fd) : FnOk P w K mg base (L2.CX P w) 4 fa fd ["words", "at"] (spX adr tb 2 3 f_upkeep_parts) := by
  exact fn_ok0 (k := 3) F sc_upkeep_parts rfl rfl fun cdv A outer s H E hr => ⟨_, (pss_cons (ps_set (i := 2) sc_upkeep_parts.nd rfl (Or.inl rfl) pe_dnewK) (pss_cons (ps_for (passes_of rfl) rfl (pi_tup (pe_glob (v := .ref (adr 4)) (by rfl) T.m_RULES rfl)) (pg_name (i := 3) sc_upkeep_parts.nd rfl (Or.inl rfl)) (pss_cons (ps_set (i := 4) sc_upkeep_parts.nd rfl (Or.inl rfl) (pe_call G_word_at (hr.mono (by decide)) (by rfl) B_word_at.m B_word_at.k B_word_at.b .nil (passes_call (takes_of rfl rfl rfl rfl) (fun _ _ _ _ h => h)) (pa_cons (pv 0) (pa_cons (pv 1) pa_nil)))) (pss_cons (ps_if (pt_not (pt_val (pe_call G_is_word_of (hr.mono (by decide)) (by rfl) B_is_word_of.m B_is_word_of.k B_is_word_of.b .nil passL (pa_cons (pv 3) (pa_cons (pv 4) pa_nil))))) (pss_one (ps_raise rfl (takes_of rfl rfl rfl rfl) (pmk_oex XX_BadText.T XX_BadText.i XX_BadText.t XX_BadText.F (hr.mono (by decide)) XX_BadText.b .nil passL (by rfl) T.m_BadText (pa_cons pe_int (pa_cons (pv 1) pa_nil))))) pss_nil) (pss_cons (ps_dput (RX.Room.keys' hr) (pv 2) (pv 3) (pv 4) (by rfl)) (pss_one (ps_aug (i := 1) sc_upkeep_parts.nd rfl (Or.inl rfl) pe_int ip_add)))))) (pss_one (ps_ret (pe_tup (pa_cons (pv 2) (pa_cons (pv 1) pa_nil))))))), fun sh ρ x hx => (sat_seq (sat_asg sat_dnew sat_gname) (sat_seq (sat_for (sat_iTup XS sat_cls) sat_gname (sat_seq (sat_asg (sat_call hx (sat_cons sat_var (sat_cons sat_var sat_nil))) sat_gname) (sat_seq (sat_ifS (sat_not (sat_b (sat_call linkX_no (sat_cons sat_var (sat_cons sat_var sat_nil))))) (sat_raise hx XX_BadText.T XX_BadText.nf (by decide) (sat_cons sat_int (sat_cons sat_var sat_nil))) sat_next) (sat_seq (sat_dput sat_var sat_var sat_var) (sat_aug sat_add sat_int))))) (sat_ret (sat_tup (sat_cons sat_var (sat_cons sat_var sat_nil))))))⟩
theorem sc_Upkeep_init : FnScope ["self", "begin", "grow", "touch", "stay", "leave", "drop", "merge", "split", "told", "rule", "word"] ["self", "begin", "grow", "touch", "stay", "leave", "drop", "merge", "split"] (defScope s_Upkeep_init) := ⟨rfl, rfl, rfl, by decide +kernel, rfl, by decide +kernel, by decide +kernel⟩
theorem ok_Upkeep_init {i_BadUpkeep : Addr} {j_BadUpkeep : FuncData} {a_is_word_of : Addr} {d_is_word_of : FuncData} {fa : Addr} {fd : FuncData} (T : Txt K mg adr) (XI : InsF K adr isI lacks) (XS : STOk K adr st) (XX_BadUpkeep : ErrX P w K mg base adr 1 i_BadUpkeep j_BadUpkeep ["self", "part"] ["part"]) (G_is_word_of : FnOk P w K mg base (L2.CX P w) 1 a_is_word_of d_is_word_of ["rule", "word"] (spX adr tb 2 0 f_is_word_of)) (B_is_word_of : DefB K mg "is_word_of" a_is_word_of d_is_word_of ["rule", "word"]) (F : FunD K "__init__" "Upkeep.__init__" (defArgs s_Upkeep_init) (defBody s_Upkeep_init) (defScope s_Upkeep_init) [] kwsU fa fd) : FnOk P w K mg base (L2.CX P w) 3 fa fd ["self", "begin", "grow", "touch", "stay", "leave", "drop", "merge", "split"] (spX adr tb 9 3 f_Upkeep_init) := by
  exact fn_okK (k := 2) F sc_Upkeep_init rfl rfl fun cdv A outer s H E hr => ⟨_, (pss_cons (ps_set (i := 9) sc_Upkeep_init.nd rfl (Or.inl rfl) (pe_tup (pa_cons (pv 1) (pa_cons (pv 2) (pa_cons (pv 3) (pa_cons (pv 4) (pa_cons (pv 5) (pa_cons (pv 6) (pa_cons (pv 7) (pa_cons (pv 8) pa_nil)))))))))) (pss_cons (ps_for (passes_of rfl) rfl (RZ.pi_zipA (by rfl) T.z_zip (pa_cons (pe_glob (v := .ref (adr 4)) (by rfl) T.m_RULES rfl) (pa_cons (pv 9) pa_nil))) (pg_tup (by rfl) (pgs_cons (pg_name (i := 10) sc_Upkeep_init.nd rfl (Or.inl rfl)) (pgs_cons (pg_name (i := 11) sc_Upkeep_init.nd rfl (Or.inl rfl)) pgs_nil))) (pss_one (ps_if (pt_not (pt_val (pe_call G_is_word_of (hr.mono (by decide)) (by rfl) B_is_word_of.m B_is_word_of.k B_is_word_of.b .nil passL (pa_cons (pv 10) (pa_cons (pv 11) pa_nil))))) (pss_one (ps_raise rfl (takes_of rfl rfl rfl rfl) (pmk_oex XX_BadUpkeep.T XX_BadUpkeep.i XX_BadUpkeep.t XX_BadUpkeep.F (hr.mono (by decide)) XX_BadUpkeep.b .nil passL (by rfl) T.m_BadUpkeep (pa_cons (pv 10) pa_nil)))) pss_nil))) (pss_one (ps_fld (pv 0) (pe_dictZip rfl (by rfl) T.z_dict (by decide +kernel) (by rfl) T.z_zip (pa_cons (pe_glob (v := .ref (adr 4)) (by rfl) T.m_RULES rfl) (pa_cons (pv 9) pa_nil))) rfl)))), fun sh ρ x hx => (sat_seq (sat_asg (sat_tup (sat_cons sat_var (sat_cons sat_var (sat_cons sat_var (sat_cons sat_var (sat_cons sat_var (sat_cons sat_var (sat_cons sat_var (sat_cons sat_var sat_nil))))))))) sat_gname) (sat_seq (sat_for (sat_iZip XS (sat_cons sat_cls (sat_cons sat_var sat_nil))) (sat_gtup (sat_gcons sat_gname (sat_gcons sat_gname sat_gnil))) (sat_ifS (sat_not (sat_b (sat_call linkX_no (sat_cons sat_var (sat_cons sat_var sat_nil))))) (sat_raise hx XX_BadUpkeep.T XX_BadUpkeep.nf (by decide) (sat_cons sat_var sat_nil)) sat_next)) (sat_setf XI sat_var (sat_dictZip XS (sat_cons sat_cls (sat_cons sat_var sat_nil))))))⟩
theorem sc_Upkeep_rules : FnScope ["self", "rule"] ["self"] (defScope s_Upkeep_rules) := ⟨rfl, rfl, rfl, by decide +kernel, rfl, by decide +kernel, by decide +kernel⟩
theorem ok_Upkeep_rules {fa : Addr} {fd : FuncData} (T : Txt K mg adr) (XI : InsF K adr isI lacks) (XS : STOk K adr st) (F : L2.Fun K "rules" "Upkeep.rules" s_Upkeep_rules fa fd) : FnOk P w K mg base (L2.CX P w) 1 fa fd ["self"] (spX adr tb 1 1 f_Upkeep_rules) := by
  exact fn_ok0 (k := 0) F sc_Upkeep_rules rfl rfl fun cdv A outer s H E hr => ⟨_, (pss_one (ps_ret (pe_dc (own := [("rule", 1)]) (g := gName 1) rfl sc_Upkeep_rules.nd (pi_tup (pe_glob (v := .ref (adr 4)) (by rfl) T.m_RULES rfl)) (blkOk_by (N := ["self", "rule"]) (sc := defScope s_Upkeep_rules) (by decide +kernel)) (fun _ _ _ _ _ => pg_name (i := 1) sc_Upkeep_rules.nd rfl (Or.inl rfl)) (fun _ _ _ _ _ => pts_nil) (fun _ _ _ _ _ => (pv 1)) (fun _ _ _ _ _ => (pe_dget (RX.Room.keys' hr) (pe_fld (pv 0) rfl) (pv 1) (fun _ _ => rfl))) (fun _ => rfl)))), fun sh ρ x hx => (sat_ret (sat_dc (sat_iTup XS sat_cls) sat_gname (own_name (by decide)) sat_tests_nil sat_var (sat_dget (sat_fld XI sat_var) sat_var)))⟩
theorem sc_Upkeep_eq : FnScope ["self", "other"] ["self", "other"] (defScope s_Upkeep_eq) := ⟨rfl, rfl, rfl, by decide +kernel, rfl, by decide +kernel, by decide +kernel⟩
theorem ok_Upkeep_eq {fa : Addr} {fd : FuncData} (T : Txt K mg adr) (XI : InsF K adr isI lacks) (XT : IsF K adr isO isT) (F : L2.Fun K "__eq__" "Upkeep.__eq__" s_Upkeep_eq fa fd) : FnOk P w K mg base (L2.CX P w) 1 fa fd ["self", "other"] (spX adr tb 2 0 f_Upkeep_eq) := by
  exact fn_ok0 (k := 0) F sc_Upkeep_eq rfl rfl fun cdv A outer s H E hr => ⟨_, (pss_one (ps_ret (pe_and (pe_callB call_isi (by rfl) T.z_isinstance (by decide +kernel) (pa_cons (pv 1) (pa_cons (pe_glob (v := .ref (adr 3)) (by rfl) T.m_Upkeep rfl) pa_nil))) (pe_one (pe_cmpR (op_eqDB (RX.Room.low' hr)) (pe_fld (pv 0) rfl) (pe_fld (pv 1) rfl) (nomark _)))))), fun sh ρ x hx => (sat_ret (sat_andV (sat_isi XT (.own _) sat_var) (sat_op sat_eqDB (sat_fld XI sat_var) (sat_fld XI sat_var))))⟩
theorem sc_Upkeep_str : FnScope ["self", "rule"] ["self"] (defScope s_Upkeep_str) := ⟨rfl, rfl, rfl, by decide +kernel, rfl, by decide +kernel, by decide +kernel⟩
theorem ok_Upkeep_str {fa : Addr} {fd : FuncData} (T : Txt K mg adr) (XI : InsF K adr isI lacks) (XS : STOk K adr st) (F : L2.Fun K "__str__" "Upkeep.__str__" s_Upkeep_str fa fd) : FnOk P w K mg base (L2.CX P w) 1 fa fd ["self"] (spX adr tb 1 1 f_Upkeep_str) := by
  exact fn_ok0 (k := 0) F sc_Upkeep_str rfl rfl fun cdv A outer s H E hr => ⟨_, (pss_one (ps_ret (pe_join pe_str (pe_lc (own := [("rule", 1)]) (g := gName 1) rfl sc_Upkeep_str.nd (pi_tup (pe_glob (v := .ref (adr 4)) (by rfl) T.m_RULES rfl)) (blkOk_by (N := ["self", "rule"]) (sc := defScope s_Upkeep_str) (by decide +kernel)) (fun _ _ _ _ _ => pg_name (i := 1) sc_Upkeep_str.nd rfl (Or.inl rfl)) (fun _ _ _ _ _ => pts_nil) (fun _ _ _ _ _ => (pe_dget (RX.Room.keys' hr) (pe_fld (pv 0) rfl) (pv 1) (fun _ _ => rfl))))))), fun sh ρ x hx => (sat_ret (sat_join (sat_lc (sat_iTup XS sat_cls) sat_gname (own_name (by decide)) sat_tests_nil (sat_dget (sat_fld XI sat_var) sat_var))))⟩
theorem sc_Upkeep_read : FnScope ["cls", "text", "words", "parts", "behind"] ["cls", "text"] (defScope s_Upkeep_read) := ⟨rfl, rfl, rfl, by decide +kernel, rfl, by decide +kernel, by decide +kernel⟩
theorem ok_Upkeep_read {fU : Addr} {dU : FuncData} {a_words_of : Addr} {d_words_of : FuncData} {a_check_end : Addr} {d_check_end : FuncData} {a_upkeep_parts : Addr} {d_upkeep_parts : FuncData} {fa : Addr} {fd : FuncData} (T : Txt K mg adr) (XU : UpK P w K mg base adr tb 3 fU dU) (G_words_of : FnOk P w K mg base (L2.CX P w) 3 a_words_of d_words_of ["text"] (spX adr tb 1 0 f_words_of)) (B_words_of : DefB K mg "words_of" a_words_of d_words_of ["text"]) (G_check_end : FnOk P w K mg base (L2.CX P w) 3 a_check_end d_check_end ["words", "at"] (spX adr tb 2 0 f_check_end)) (B_check_end : DefB K mg "check_end" a_check_end d_check_end ["words", "at"]) (G_upkeep_parts : FnOk P w K mg base (L2.CX P w) 4 a_upkeep_parts d_upkeep_parts ["words", "at"] (spX adr tb 2 3 f_upkeep_parts)) (B_upkeep_parts : DefB K mg "upkeep_parts" a_upkeep_parts d_upkeep_parts ["words", "at"]) (F : L2.Fun K "read" "Upkeep.read" s_Upkeep_read fa fd) : FnOk P w K mg base (L2.CX P w) 5 fa fd ["cls", "text"] (spX adr tb 2 3 f_Upkeep_read) := by
  obtain ⟨_, kb_star⟩ := XU.pm_star
  exact fn_ok0 (k := 4) F sc_Upkeep_read rfl rfl fun cdv A outer s H E hr => ⟨_, (pss_cons (ps_set (i := 2) sc_Upkeep_read.nd rfl (Or.inl rfl) (pe_call G_words_of (hr.mono (by decide)) (by rfl) B_words_of.m B_words_of.k B_words_of.b .nil (passes_call (takes_of rfl rfl rfl rfl) (fun _ _ _ _ h => h)) (pa_cons (pv 1) pa_nil))) (pss_cons (ps_asg (pe_call G_upkeep_parts (hr.mono (by decide)) (by rfl) B_upkeep_parts.m B_upkeep_parts.k B_upkeep_parts.b .nil (passes_call (takes_of rfl rfl rfl rfl) (fun _ _ _ _ h => h)) (pa_cons (pv 2) (pa_cons pe_int pa_nil))) (pg_tup (by rfl) (pgs_cons (pg_name (i := 3) sc_Upkeep_read.nd rfl (Or.inl rfl)) (pgs_cons (pg_name (i := 4) sc_Upkeep_read.nd rfl (Or.inl rfl)) pgs_nil)))) (pss_cons (ps_expr (pe_call G_check_end (hr.mono (by decide)) (by rfl) B_check_end.m B_check_end.k B_check_end.b .nil (passes_call (takes_of rfl rfl rfl rfl) (fun _ _ _ _ h => h)) (pa_cons (pv 2) (pa_cons (pv 4) pa_nil)))) (pss_one (ps_ret (pe_starMk XU.M XU.F (hr.mono (by decide)) kb_star (passes_call (takes_of rfl rfl rfl rfl) (fun _ _ _ _ h => h)) (pv 0) (pv 3))))))), fun sh ρ x hx => (sat_seq (sat_asg (sat_call hx (sat_cons sat_var sat_nil)) sat_gname) (sat_seq (sat_asg (sat_call hx (sat_cons sat_var (sat_cons sat_int sat_nil))) (sat_gtup (sat_gcons sat_gname (sat_gcons sat_gname sat_gnil)))) (sat_seq (sat_expr (sat_call hx (sat_cons sat_var (sat_cons sat_var sat_nil)))) (sat_ret (sat_starMk pm_star_cons pm_star_rel hx sat_var sat_var)))))⟩
theorem sc__law_rules : FnScope [] [] (defScope s__law_rules) := ⟨rfl, rfl, rfl, by decide +kernel, rfl, by decide +kernel, by decide +kernel⟩
theorem ok__law_rules {fa : Addr} {fd : FuncData} (T : Txt K mg adr) (F : L2.Fun K "_law_rules" "_law_rules" s__law_rules fa fd) : FnOk P w K mg base (L2.CX P w) 1 fa fd [] (spX adr tb 0 0 f_law_rules) := by
  exact fn_ok0 (k := 0) F sc__law_rules rfl rfl fun cdv A outer s H E hr => ⟨_, (pss_one (ps_ret (pe_lst (pa_cons pe_str (pa_cons pe_str (pa_cons pe_str (pa_cons pe_str (pa_cons pe_str (pa_cons pe_str (pa_cons pe_str (pa_cons pe_str pa_nil))))))))))), fun sh ρ x hx => (sat_ret (sat_lst (sat_cons sat_str (sat_cons sat_str (sat_cons sat_str (sat_cons sat_str (sat_cons sat_str (sat_cons sat_str (sat_cons sat_str (sat_cons sat_str sat_nil))))))))))⟩
theorem sc__law_words : FnScope ["_law_rule"] ["_law_rule"] (defScope s__law_words) := ⟨rfl, rfl, rfl, by decide +kernel, rfl, by decide +kernel, by decide +kernel⟩
theorem ok__law_words {fa : Addr} {fd : FuncData} (T : Txt K mg adr) (F : L2.Fun K "_law_words" "_law_words" s__law_words fa fd) : FnOk P w K mg base (L2.CX P w) 1 fa fd ["_law_rule"] (spX adr tb 1 0 f_law_words) := by
  exact fn_ok0 (k := 0) F sc__law_words rfl rfl fun cdv A outer s H E hr => ⟨_, (pss_cons (ps_if (pt_cmpR op_in_seq (pv 0) (pe_tup (pa_cons pe_str (pa_cons pe_str pa_nil))) (by rfl)) (pss_one (ps_ret (pe_op op_cat (pe_lst (pa_cons pe_str (pa_cons pe_str (pa_cons pe_str pa_nil)))) (pe_ifExp (pt_cmpR op_eq (pv 0) pe_str (nomark _)) (pe_lst (pa_cons pe_str pa_nil)) (pe_lst pa_nil))))) pss_nil) (pss_one (ps_ret (pe_op op_cat (pe_lst (pa_cons pe_str (pa_cons pe_str (pa_cons pe_str pa_nil)))) (pe_ifExp (pt_cmpR op_in_seq (pv 0) (pe_tup (pa_cons pe_str (pa_cons pe_str pa_nil))) (by rfl)) (pe_lst (pa_cons pe_str pa_nil)) (pe_lst pa_nil)))))), fun sh ρ x hx => (sat_seq (sat_ifS (sat_test (sat_op (sat_inS noST_ok) sat_var (sat_tup (sat_cons sat_str (sat_cons sat_str sat_nil))))) (sat_ret (sat_op sat_cat (sat_lst (sat_cons sat_str (sat_cons sat_str (sat_cons sat_str sat_nil)))) (sat_if (sat_test (sat_op sat_eqV sat_var sat_str)) (sat_lst (sat_cons sat_str sat_nil)) (sat_lst sat_nil)))) sat_next) (sat_ret (sat_op sat_cat (sat_lst (sat_cons sat_str (sat_cons sat_str (sat_cons sat_str sat_nil)))) (sat_if (sat_test (sat_op (sat_inS noST_ok) sat_var (sat_tup (sat_cons sat_str (sat_cons sat_str sat_nil))))) (sat_lst (sat_cons sat_str sat_nil)) (sat_lst sat_nil)))))⟩
theorem sc__law_book : FnScope ["_law_row"] ["_law_row"] (defScope s__law_book) := ⟨rfl, rfl, rfl, by decide +kernel, rfl, by decide +kernel, by decide +kernel⟩
theorem ok__law_book {fU : Addr} {dU : FuncData} {fa : Addr} {fd : FuncData} (T : Txt K mg adr) (XU : UpK P w K mg base adr tb 3 fU dU) (F : L2.Fun K "_law_book" "_law_book" s__law_book fa fd) : FnOk P w K mg base (L2.CX P w) 5 fa fd ["_law_row"] (spX adr tb 1 0 f_law_book) := by
  obtain ⟨_, kb_all⟩ := XU.pm_all
  exact fn_ok0 (k := 4) F sc__law_book rfl rfl fun cdv A outer s H E hr => ⟨_, (pss_one (ps_ret (pe_makeK0 XU.M XU.F (hr.mono (by decide)) (by rfl) T.m_Upkeep kb_all (passes_call (takes_of rfl rfl rfl rfl) (fun _ _ _ _ h => h)) (pk_cons (pe_dget (RX.Room.keys' hr) (pv 0) pe_str (fun _ _ => rfl)) (pk_cons (pe_dget (RX.Room.keys' hr) (pv 0) pe_str (fun _ _ => rfl)) (pk_cons (pe_dget (RX.Room.keys' hr) (pv 0) pe_str (fun _ _ => rfl)) (pk_cons (pe_dget (RX.Room.keys' hr) (pv 0) pe_str (fun _ _ => rfl)) (pk_cons (pe_dget (RX.Room.keys' hr) (pv 0) pe_str (fun _ _ => rfl)) (pk_cons (pe_dget (RX.Room.keys' hr) (pv 0) pe_str (fun _ _ => rfl)) (pk_cons (pe_dget (RX.Room.keys' hr) (pv 0) pe_str (fun _ _ => rfl)) (pk_cons (pe_dget (RX.Room.keys' hr) (pv 0) pe_str (fun _ _ => rfl)) pk_nil))))))))))), fun sh ρ x hx => (sat_ret (sat_mkK pm_all_cons pm_all_rel hx (sat_cons (sat_dget sat_var sat_str) (sat_cons (sat_dget sat_var sat_str) (sat_cons (sat_dget sat_var sat_str) (sat_cons (sat_dget sat_var sat_str) (sat_cons (sat_dget sat_var sat_str) (sat_cons (sat_dget sat_var sat_str) (sat_cons (sat_dget sat_var sat_str) (sat_cons (sat_dget sat_var sat_str) sat_nil))))))))))⟩
theorem sc__law_is : FnScope ["_law_book_here", "_law_row", "_law_line", "_law_rule", "_law_held"] ["_law_book_here", "_law_row"] (defScope s__law_is) := ⟨rfl, rfl, rfl, by decide +kernel, rfl, by decide +kernel, by decide +kernel⟩
theorem ok__law_is {fE fS : Addr} {dE dS : FuncData} {pP gP : Addr} {dP : FuncData} {pR gR : Addr} {dR : FuncData} {a__law_rules : Addr} {d__law_rules : FuncData} {a__law_book : Addr} {d__law_book : FuncData} {fa : Addr} {fd : FuncData} (T : Txt K mg adr) (XT : IsF K adr isO isT) (XE : EqF K adr fE isE nfT) (XSt : ∀ c, isS3 c = true → StrC K (adr c) fS) (XO : UpO P w K mg base adr tb fE dE fS dS) (XP : UpP P w K mg base adr tb 1 pP gP dP) (XR : UpR P w K mg base adr tb 5 pR gR dR) (G__law_rules : FnOk P w K mg base (L2.CX P w) 1 a__law_rules d__law_rules [] (spX adr tb 0 0 f_law_rules)) (B__law_rules : DefB K mg "_law_rules" a__law_rules d__law_rules []) (G__law_book : FnOk P w K mg base (L2.CX P w) 5 a__law_book d__law_book ["_law_row"] (spX adr tb 1 0 f_law_book)) (B__law_book : DefB K mg "_law_book" a__law_book d__law_book ["_law_row"]) (F : L2.Fun K "_law_is" "_law_is" s__law_is fa fd) : FnOk P w K mg base (L2.CX P w) 7 fa fd ["_law_book_here", "_law_row"] (spX adr tb 2 3 f_law_is) := by
  obtain ⟨_, kbR⟩ := XR.bk
  exact fn_ok0 (k := 6) F sc__law_is rfl rfl fun cdv A outer s H E hr => ⟨_, (pss_cons (ps_set (i := 2) sc__law_is.nd rfl (Or.inl rfl) (pe_join pe_str (pe_lc (own := [("_law_rule", 3)]) (g := gName 3) rfl sc__law_is.nd (pi_list (pe_call0 G__law_rules (hr.mono (by decide)) (by rfl) B__law_rules.m B__law_rules.k B__law_rules.b .nil passL)) (blkOk_by (N := ["_law_book_here", "_law_row", "_law_line", "_law_rule", "_law_held"]) (sc := defScope s__law_is) (by decide +kernel)) (fun _ _ _ _ _ => pg_name (i := 3) sc__law_is.nd rfl (Or.inl rfl)) (fun _ _ _ _ _ => pts_nil) (fun _ _ _ _ _ => (pe_dget (RX.Room.keys' hr) (pv 1) (pv 3) (fun _ _ => rfl)))))) (pss_cons (ps_if (PW.pt (pw_or (pt_not (pt_val (pe_callB call_isi (by rfl) T.z_isinstance (by decide +kernel) (pa_cons (pv 0) (pa_cons (pe_glob (v := .ref (adr 3)) (by rfl) T.m_Upkeep rfl) pa_nil))))) (pw_or1 (pt_cmpR (op_neD (hr.units)) (LiI.pe_listItems rfl (pe_prop (pv 0) XP.c XP.p XP.F (hr.mono (by decide)) XP.b .nil passL rfl) (by rfl) T.z_list (by decide +kernel)) (pe_lc (own := [("_law_rule", 3)]) (g := gName 3) rfl sc__law_is.nd (pi_list (pe_call0 G__law_rules (hr.mono (by decide)) (by rfl) B__law_rules.m B__law_rules.k B__law_rules.b .nil passL)) (blkOk_by (N := ["_law_book_here", "_law_row", "_law_line", "_law_rule", "_law_held"]) (sc := defScope s__law_is) (by decide +kernel)) (fun _ _ _ _ _ => pg_name (i := 3) sc__law_is.nd rfl (Or.inl rfl)) (fun _ _ _ _ _ => pts_nil) (fun _ _ _ _ _ => (pe_tup (pa_cons (pv 3) (pa_cons (pe_dget (RX.Room.keys' hr) (pv 1) (pv 3) (fun _ _ => rfl)) pa_nil))))) (nomark _))))) (pss_one (ps_ret pe_bl)) pss_nil) (pss_cons (ps_set (i := 4) sc__law_is.nd rfl (Or.inl rfl) (pe_prop (pv 0) XP.c XP.p XP.F (hr.mono (by decide)) XP.b .nil passL rfl)) (pss_cons (ps_dput (RX.Room.keys' hr) (pv 4) pe_str pe_str (by rfl)) (pss_cons (ps_if (PW.pt (pw_or (pt_cmpR (op_neDB (RX.Room.low' hr)) (pe_prop (pv 0) XP.c XP.p XP.F (hr.mono (by decide)) XP.b .nil passL rfl) (pv 1) (nomark _)) (pw_or (pt_cmpR op_ne (pe_callTy (call_strN XO.str (hr.mono (by decide)) XO.bs passL) (by rfl) T.z_str (by decide +kernel) (pa_cons (pv 0) pa_nil)) (pv 2) (nomark _)) (pw_or (pt_cmpR (op_neN XO.eq (hr.mono (by decide)) XO.be passL) (ClX.pe_cmeth (pe_glob (v := .ref (adr 3)) (by rfl) T.m_Upkeep rfl) XR.r XR.c XR.R (hr.mono (by decide)) passL (pa_cons (pv 2) pa_nil)) (pv 0) (nomark _)) (pw_or1 (pt_cmpR (op_neN XO.eq (hr.mono (by decide)) XO.be passL) (ClX.pe_cmethK (pe_glob (v := .ref (adr 3)) (by rfl) T.m_Upkeep rfl) XR.r XR.c XR.F (hr.mono (by decide)) kbR passL (pk_cons (pv 2) pk_nil) (fun _ _ _ h => spX_len h)) (pv 0) (nomark _))))))) (pss_one (ps_ret pe_bl)) pss_nil) (pss_one (ps_ret (pe_and (pe_cmpR (op_eqN XO.eq (hr.mono (by decide)) XO.be passL) (pv 0) (pe_call G__law_book (hr.mono (by decide)) (by rfl) B__law_book.m B__law_book.k B__law_book.b .nil passL (pa_cons (pv 1) pa_nil)) (nomark _)) (pe_and (pe_cmpR (op_neN XO.eq (hr.mono (by decide)) XO.be passL) (pv 0) (pv 1) (nomark _)) (pe_one (pe_cmpR (op_neN XO.eq (hr.mono (by decide)) XO.be passL) (pv 0) (pv 2) (nomark _)))))))))))), fun sh ρ x hx => (sat_seq (sat_asg (sat_join (sat_lc (sat_iLst (sat_call linkX_no sat_nil)) sat_gname (own_name (by decide)) sat_tests_nil (sat_dget sat_var sat_var))) sat_gname) (sat_seq (sat_ifS (sat_or (sat_not (sat_b (sat_isi XT (.own _) sat_var))) (sat_test (sat_op sat_neD (sat_items (sat_prop sat_var)) (sat_lc (sat_iLst (sat_call linkX_no sat_nil)) sat_gname (own_name (by decide)) sat_tests_nil (sat_tup (sat_cons sat_var (sat_cons (sat_dget sat_var sat_var) sat_nil))))))) (sat_ret sat_bl) sat_next) (sat_seq (sat_asg (sat_prop sat_var) sat_gname) (sat_seq (sat_dput sat_var sat_str sat_str) (sat_seq (sat_ifS (sat_or (sat_test (sat_op sat_eqDB (sat_prop sat_var) sat_var)) (sat_or (sat_test (sat_op sat_neV (sat_cb (sat_strO XSt) (sat_cons sat_var sat_nil)) sat_var)) (sat_or (sat_test (sat_op (sat_eqO XT XE) (sat_cmeth linkX_no (sat_cons sat_var sat_nil)) sat_var)) (sat_test (sat_op (sat_eqO XT XE) (sat_cmeth linkX_no (sat_cons sat_var sat_nil)) sat_var))))) (sat_ret sat_bl) sat_next) (sat_ret (sat_andV (sat_op (sat_eqO XT XE) sat_var (sat_call linkX_no (sat_cons sat_var sat_nil))) (sat_andV (sat_op (sat_eqO XT XE) sat_var sat_var) (sat_op (sat_eqO XT XE) sat_var sat_var)))))))))⟩
end
end K8

set_option Elab.async false
set_option linter.all false
set_option maxRecDepth 100000
set_option maxHeartbeats 1000000
/-! K8Q: the def that hears; a rule book bent. -/
namespace K8
open PySem PySem.Spec PyProof.Rows L2 RX
section
variable {P : Program} {w : World} {K : PySem.W.Frag} {mg : Str → Option Value} {base : Heap} {adr : Nat → Addr} {tb : List (Addr × Str)}
theorem heard_sat {cl : CL} (XK : KpF K cl.adr isX isK lackK) : SatS cl f_heard (trH K cl.adr) := (sat_seq (sat_ifS (sat_test (sat_op sat_isN sat_var sat_non)) (sat_ret (sat_lst (sat_cons sat_var sat_nil))) sat_next) (sat_seq (sat_ifS (sat_b (sat_isK XK sat_var)) (sat_ret (sat_tup (sat_cons sat_str (sat_cons (sat_kpF XK sat_var) sat_nil)))) sat_next) (sat_ret (sat_if (sat_b (sat_isK XK sat_var)) (sat_tup (sat_cons sat_str (sat_cons (sat_kpF XK sat_var) (sat_cons (sat_kpF XK sat_var) sat_nil)))) (sat_tup (sat_cons sat_str sat_nil))))))
theorem heard_gives {X : Cx} {g : Addr} {cdg : Value} {q : Str} {k : Nat} {adr : Nat → Addr} (T : Txt X.K X.mg adr) (XK : KpF X.K adr isX isK lackK) : LamX.GivesToS X NH "_law_heard" (defScope s__law_heard) g cdg (defBody s__law_heard) "_law_ask" q k (LamX.TTheard X.K NH (.ref (adr 0)) 1 2 3 (trH X.K adr)) := by
  intro f c' s H Q tl hr act hc h
  refine ⟨_, pss_cons (ps_asg (pe_tup (pa_cons pe_non (pa_cons pe_non pa_nil))) (pg_tup (by rfl) (pgs_cons (pg_name (i := 1) sc__law_heard.nd rfl (Or.inl rfl)) (pgs_cons (pg_name (i := 2) sc__law_heard.nd rfl (Or.inl rfl)) pgs_nil)))) (pss_cons (ps_try_keep (i := 3) (c := .ref (adr 0)) (ts := tAsg (tVar 3) (gName 1)) (tb := fun W => tAsg (fun σZ HZ Q' => σZ[0]? = some (some (.ref f)) ∧ HZ c' = some (LamX.CodeO c' q) ∧ tl (fun cls d H' => W cls d σZ H') HZ Q') (gName 2)) rfl rfl rfl sc__law_heard.nd rfl (by rfl) ⟨by rfl, by decide, .inl T.m_SkipError⟩ L2.takes0 (fun W pn xe tk _ => pss_one (ps_set (i := 2) sc__law_heard.nd rfl (Or.inl rfl) (act W pn xe _ _ tk))) (fun a pn => pss_one (ps_set (i := 1) sc__law_heard.nd rfl (Or.inl rfl) (pv 3)))) (show PSs _ _ (trH X.K adr) from (pss_cons (ps_if (pt_cmpR op_isN (pv 1) pe_non (nomark _)) (pss_one (ps_ret (pe_lst (pa_cons (pv 2) pa_nil)))) pss_nil) (pss_cons (ps_if (pt_val (pe_callB call_isK (by rfl) T.z_isinstance (by decide +kernel) (pa_cons (pv 1) (pa_cons (pe_glob (v := .ref (adr 1)) (by rfl) T.m_BadUpkeep rfl) pa_nil)))) (pss_one (ps_ret (pe_tup (pa_cons pe_str (pa_cons (pe_kpf (pv 1) rfl) pa_nil))))) pss_nil) (pss_one (ps_ret (pe_ifExp (pt_val (pe_callB call_isK (by rfl) T.z_isinstance (by decide +kernel) (pa_cons (pv 1) (pa_cons (pe_glob (v := .ref (adr 2)) (by rfl) T.m_BadText rfl) pa_nil)))) (pe_tup (pa_cons pe_str (pa_cons (pe_kpf (pv 1) rfl) (pa_cons (pe_kpf (pv 1) rfl) pa_nil)))) (pe_tup (pa_cons pe_str pa_nil))))))))), ?_⟩
  exact ⟨(by show 2 ≤ sizeLine; decide), fun p hp => ⟨p, _, rfl, .inl (.inl upd_same), rfl, _, _, rfl, _, _, rfl, rfl, rfl, (by rw [upd_ne (fun z => by rw [z, hp] at hc; cases hc)]; exact hc), h f p hp⟩⟩
end
end K8

set_option Elab.async false
set_option linter.all false
set_option maxRecDepth 100000
set_option maxHeartbeats 1000000
/-! K8B: a rule book bent. -/
namespace K8
open PySem PySem.Spec PyProof.Rows L2 RX
section
variable {P : Program} {w : World} {K : PySem.W.Frag} {mg : Str → Option Value} {base : Heap} {adr : Nat → Addr} {tb : List (Addr × Str)}
theorem sc__law_bent_right : FnScope ["_law_pen_here", "_law_row", "_law_rules_here", "_law_spot", "_law_far", "_law_bent", "_law_odd", "_law_word", "_law_fine"] ["_law_pen_here", "_law_row"] (defScope s__law_bent_right) := ⟨rfl, rfl, rfl, by decide +kernel, rfl, by decide +kernel, by decide +kernel⟩
theorem ok__law_bent_right {fE fS : Addr} {dE dS : FuncData} {a__law_rules : Addr} {d__law_rules : FuncData} {a__law_words : Addr} {d__law_words : FuncData} {a__law_book : Addr} {d__law_book : FuncData} {a__law_is : Addr} {d__law_is : FuncData} {a__law_pick : Addr} {d__law_pick : FuncData} {a__law_draw : Addr} {d__law_draw : FuncData} {gH : Addr} {dH : FuncData} {PB PT cc : Addr} {fa : Addr} {fd : FuncData} (T : Txt K mg adr) (XT : IsF K adr isO isT) (XK : KpF K adr isX isK lackK) (XE : EqF K adr fE isE nfT) (XO : UpO P w K mg base adr [(PB, qB), (PT, qT)] fE dE fS dS) (G__law_rules : FnOk P w K mg base (L2.CX P w) 1 a__law_rules d__law_rules [] (spX adr [(PB, qB), (PT, qT)] 0 0 f_law_rules)) (B__law_rules : DefB K mg "_law_rules" a__law_rules d__law_rules []) (G__law_words : FnOk P w K mg base (L2.CX P w) 1 a__law_words d__law_words ["_law_rule"] (spX adr [(PB, qB), (PT, qT)] 1 0 f_law_words)) (B__law_words : DefB K mg "_law_words" a__law_words d__law_words ["_law_rule"]) (G__law_book : FnOk P w K mg base (L2.CX P w) 5 a__law_book d__law_book ["_law_row"] (spX adr [(PB, qB), (PT, qT)] 1 0 f_law_book)) (B__law_book : DefB K mg "_law_book" a__law_book d__law_book ["_law_row"]) (G__law_is : FnOk P w K mg base (L2.CX P w) 7 a__law_is d__law_is ["_law_book_here", "_law_row"] (spX adr [(PB, qB), (PT, qT)] 2 3 f_law_is)) (B__law_is : DefB K mg "_law_is" a__law_is d__law_is ["_law_book_here", "_law_row"]) (G__law_pick : FnOk P w K mg base (L2.CX P w) 2 a__law_pick d__law_pick ["_law_pen_here", "_law_some"] (spPick adr [(PB, qB), (PT, qT)])) (B__law_pick : DefB K mg "_law_pick" a__law_pick d__law_pick ["_law_pen_here", "_law_some"]) (G__law_draw : FnOk P w K mg base (L2.CX P w) 1 a__law_draw d__law_draw ["_law_pen_here", "_law_many"] (spDraw ())) (B__law_draw : DefB K mg "_law_draw" a__law_draw d__law_draw ["_law_pen_here", "_law_many"]) (XH : ∀ c, isS c = true → PySem.W.exmOne K (.ref (adr c)) (.ref (adr 0)) = some true) (FH : L2.Fun K "_law_heard" "_law_heard" s__law_heard gH dH) (BH : DefB K mg "_law_heard" gH dH ["_law_ask"]) (hne : PB ≠ PT) (TBb : LamX.TabB base mg cc PB) (F : FunC K "_law_bent_right" "_law_bent_right" s__law_bent_right fa fd cc) : FnOk P w K mg base (L2.CX P w) 9 fa fd ["_law_pen_here", "_law_row"] (spX adr [(PB, qB), (PT, qT)] 2 7 f_law_bent_right) := by
  obtain ⟨oc, od, kV, doc, pm, an, cdH, ct, osl, rfl, lkH, hcH⟩ := FH.ex
  have hmT : (PB, qB) ∈ [(PB, qB), (PT, qT)] := List.Mem.head _
  have hu : ∀ p ∈ [(PB, qB), (PT, qT)], p.1 = PB → p.2 = qB := by
    intro p hp e
    simp only [List.mem_cons, List.not_mem_nil, or_false] at hp
    rcases hp with rfl | rfl
    · rfl
    · exact absurd e.symm hne
  exact fn_okC (k := 8) F sc__law_bent_right rfl rfl fun A outer s H E hr => ⟨_, (pss_cons (ps_set (i := 2) sc__law_bent_right.nd rfl (Or.inr rfl) (pe_call0 G__law_rules (hr.mono (by decide)) (by rfl) B__law_rules.m B__law_rules.k B__law_rules.b .nil passL)) (pss_cons (ps_asg (pe_tup (pa_cons (pe_call G__law_draw (hr.mono (by decide)) (by rfl) B__law_draw.m B__law_draw.k B__law_draw.b .nil passL (pa_cons (pv 0) (pa_cons pe_int pa_nil))) (pa_cons (pe_call G__law_draw (hr.mono (by decide)) (by rfl) B__law_draw.m B__law_draw.k B__law_draw.b .nil passL (pa_cons (pv 0) (pa_cons pe_int pa_nil))) pa_nil))) (pg_tup (by rfl) (pgs_cons (pg_name (i := 3) sc__law_bent_right.nd rfl (Or.inr rfl)) (pgs_cons (pg_name (i := 4) sc__law_bent_right.nd rfl (Or.inl rfl)) pgs_nil)))) (pss_cons (ps_set (i := 5) sc__law_bent_right.nd rfl (Or.inr rfl) (pe_callTy call_dictD (by rfl) T.z_dict (by decide +kernel) (pa_cons (pv 1) pa_nil))) (pss_cons (ps_dput (RX.Room.keys' hr) (pv 5) (pe_ix ix_seq (pv 2) (pv 4) (fun _ _ => rfl)) (pe_call G__law_pick (hr.mono (by decide)) (by rfl) B__law_pick.m B__law_pick.k B__law_pick.b .nil passL (pa_cons (pv 0) (pa_cons (pe_lst (pa_cons pe_non (pa_cons pe_int (pa_cons pe_str (pa_cons pe_str (pa_cons pe_str (pa_cons (pe_tup (pa_cons pe_str pa_nil)) (pa_cons (pe_lst (pa_cons pe_str pa_nil)) (pa_cons pe_bl (pa_cons pe_str (pa_cons pe_dnewK pa_nil))))))))))) pa_nil))) (by rfl)) (pss_cons (ps_setLc (i := 6) (own := [("_law_word", 7)]) (g := gName 7) rfl sc__law_bent_right.nd rfl rfl (sw_true rfl rfl rfl (by decide +kernel)) (pi_list (pe_lst (pa_cons pe_str (pa_cons pe_str (pa_cons pe_str (pa_cons pe_str (pa_cons pe_str pa_nil))))))) (blkOk_by (N := ["_law_pen_here", "_law_row", "_law_rules_here", "_law_spot", "_law_far", "_law_bent", "_law_odd", "_law_word", "_law_fine"]) (sc := defScope s__law_bent_right) (by decide +kernel)) (fun _ _ _ _ _ => pg_name (i := 7) sc__law_bent_right.nd rfl (Or.inl rfl)) (fun _ _ _ _ _ => (pts_one (pt_cmpR op_notIn_seq (pv 7) (pe_call G__law_words (hr.mono (by decide)) (by rfl) B__law_words.m B__law_words.k B__law_words.b .nil passL (pa_cons (pe_ix ix_seq (pv 2) (pv 3) (fun _ _ => rfl)) pa_nil)) (by rfl)))) (fun _ _ _ _ _ => (pv 7))) (pss_cons (ps_dput (RX.Room.keys' hr) (pv 5) (pe_ix ix_seq (pv 2) (pv 3) (fun _ _ => rfl)) (pe_call G__law_pick (hr.mono (by decide)) (by rfl) B__law_pick.m B__law_pick.k B__law_pick.b .nil passL (pa_cons (pv 0) (pa_cons (pe_op op_cat (pv 6) (pe_lst (pa_cons pe_str (pa_cons pe_str pa_nil)))) pa_nil))) (by rfl)) (pss_cons (ps_if (pt_cmpR (op_neD (hr.units)) (LamX.pe_lamcallS (k := 5) (T := [(PB, qB), (PT, qT)]) (TT := LamX.TTheard K NH (.ref (adr 0)) 1 2 3 (trH K adr)) (tl := fun σ E' H' Q' => (tCall (spX adr [(PB, qB), (PT, qT)] 1 0 f_law_book) [] E' (tCons (tVar 5) tNil)) σ H' Q') (a := "_law_ask") (Ng := NH) (by rfl) BH.m BH.k lkH hcH BH.b sc__law_heard rfl (Or.inl rfl) (heard_gives T XK) TBb rfl hmT hu (hr.mono (by decide)) (show LamX.LamS (defScope s__law_bent_right) _ from LamX.lamS_by (by decide +kernel)) rfl (fun _ _ _ _ _ => rfl) (fun σ A outer s H E f c' hr => ⟨_, (pe_call G__law_book (hr.mono (by decide)) (by rfl) B__law_book.m B__law_book.k B__law_book.b .nil (passes_call (takes_of rfl rfl rfl rfl) (fun _ _ _ _ h => h)) (pa_cons (pv 5) pa_nil)), fun _ _ h => h⟩)) (pe_tup (pa_cons pe_str (pa_cons (pe_ix ix_seq (pv 2) (pe_ifExp (pt_cmpR op_lt (pv 3) (pv 4) (nomark _)) (pv 3) (pv 4)) (fun _ _ => rfl)) pa_nil))) (nomark _)) (pss_one (ps_ret pe_bl)) pss_nil) (pss_cons (ps_set (i := 8) sc__law_bent_right.nd rfl (Or.inl rfl) (pe_callTy call_dictD (by rfl) T.z_dict (by decide +kernel) (pa_cons (pv 1) pa_nil))) (pss_cons (ps_dput (RX.Room.keys' hr) (pv 8) (pe_ix ix_seq (pv 2) (pv 3) (fun _ _ => rfl)) (pe_call G__law_pick (hr.mono (by decide)) (by rfl) B__law_pick.m B__law_pick.k B__law_pick.b .nil passL (pa_cons (pv 0) (pa_cons (pe_lc (own := [("_law_word", 7)]) (g := gName 7) rfl sc__law_bent_right.nd (pi_list (pe_call G__law_words (hr.mono (by decide)) (by rfl) B__law_words.m B__law_words.k B__law_words.b .nil passL (pa_cons (pe_ix ix_seq (pv 2) (pv 3) (fun _ _ => rfl)) pa_nil))) (blkOk_by (N := ["_law_pen_here", "_law_row", "_law_rules_here", "_law_spot", "_law_far", "_law_bent", "_law_odd", "_law_word", "_law_fine"]) (sc := defScope s__law_bent_right) (by decide +kernel)) (fun _ _ _ _ _ => pg_name (i := 7) sc__law_bent_right.nd rfl (Or.inl rfl)) (fun _ _ _ _ _ => (pts_one (pt_cmpR op_ne (pv 7) (pe_dget (RX.Room.keys' hr) (pv 1) (pe_ix ix_seq (pv 2) (pv 3) (fun _ _ => rfl)) (fun _ _ => rfl)) (nomark _)))) (fun _ _ _ _ _ => (pv 7))) pa_nil))) (by rfl)) (pss_one (ps_ret (pe_and (pe_cmpR (op_neN XO.eq (hr.mono (by decide)) XO.be passL) (pe_call G__law_book (hr.mono (by decide)) (by rfl) B__law_book.m B__law_book.k B__law_book.b .nil passL (pa_cons (pv 8) pa_nil)) (pe_call G__law_book (hr.mono (by decide)) (by rfl) B__law_book.m B__law_book.k B__law_book.b .nil passL (pa_cons (pv 1) pa_nil)) (nomark _)) (pe_one (pe_call G__law_is (hr.mono (by decide)) (by rfl) B__law_is.m B__law_is.k B__law_is.b .nil passL (pa_cons (pe_call G__law_book (hr.mono (by decide)) (by rfl) B__law_book.m B__law_book.k B__law_book.b .nil passL (pa_cons (pv 8) pa_nil)) (pa_cons (pv 8) pa_nil)))))))))))))))), fun sh ρ x hx => (sat_seq (sat_asg (sat_call linkX_no sat_nil) sat_gname) (sat_seq (sat_asg (sat_tup (sat_cons (sat_draw (sat_cons sat_var (sat_cons sat_int sat_nil))) (sat_cons (sat_draw (sat_cons sat_var (sat_cons sat_int sat_nil))) sat_nil))) (sat_gtup (sat_gcons sat_gname (sat_gcons sat_gname sat_gnil)))) (sat_as5 (sat_cut (sat_seq (sat_asg (sat_cb sat_dictD (sat_cons sat_var sat_nil)) sat_gname) (sat_seq (sat_dput sat_var (sat_op (sat_resR (sat_ixS noST_ok)) sat_var sat_var) (sat_pick (sat_cons sat_var (sat_cons (sat_lst (sat_cons sat_non (sat_cons sat_int (sat_cons sat_str (sat_cons sat_str (sat_cons sat_str (sat_cons (sat_tup (sat_cons sat_str sat_nil)) (sat_cons (sat_lst (sat_cons sat_str sat_nil)) (sat_cons sat_bl (sat_cons sat_str (sat_cons sat_dnew sat_nil))))))))))) sat_nil)))) (sat_seq (sat_asg (sat_lc (sat_iLst (sat_lst (sat_cons sat_str (sat_cons sat_str (sat_cons sat_str (sat_cons sat_str (sat_cons sat_str sat_nil))))))) sat_gname (own_name (by decide)) (sat_test (sat_op (sat_inS noST_ok) sat_var (sat_call linkX_no (sat_cons (sat_op (sat_resR (sat_ixS noST_ok)) sat_var sat_var) sat_nil)))) sat_var) sat_gname) (sat_seq (sat_dput sat_var (sat_op (sat_resR (sat_ixS noST_ok)) sat_var sat_var) (sat_pick (sat_cons sat_var (sat_cons (sat_op sat_cat sat_var (sat_lst (sat_cons sat_str (sat_cons sat_str sat_nil)))) sat_nil)))) (sat_ifS (sat_test (sat_op sat_neD (sat_heard (K := K) (Ng := NH) (cS := .ref (adr 0)) (tr := trH K adr) rfl (by decide) (by decide) (by decide) XH (fun ρ => heard_sat XK) (fun ρ x E0 hx => (sat_call hx (sat_cons sat_var sat_nil)))) (sat_tup (sat_cons sat_str (sat_cons (sat_op (sat_resR (sat_ixS noST_ok)) sat_var (sat_if (sat_test (sat_op sat_lt sat_var sat_var)) sat_var sat_var)) sat_nil))))) (sat_ret sat_bl) sat_next))))) (sat_seq (sat_asg (sat_cb sat_dictD (sat_cons sat_var sat_nil)) sat_gname) (sat_seq (sat_dput sat_var (sat_op (sat_resR (sat_ixS noST_ok)) sat_var sat_var) (sat_pick (sat_cons sat_var (sat_cons (sat_lc (sat_iLst (sat_call linkX_no (sat_cons (sat_op (sat_resR (sat_ixS noST_ok)) sat_var sat_var) sat_nil))) sat_gname (own_name (by decide)) (sat_test (sat_op sat_neV sat_var (sat_dget sat_var (sat_op (sat_resR (sat_ixS noST_ok)) sat_var sat_var)))) sat_var) sat_nil)))) (sat_ret (sat_andV (sat_op (sat_eqO XT XE) (sat_call linkX_no (sat_cons sat_var sat_nil)) (sat_call linkX_no (sat_cons sat_var sat_nil))) (sat_trueC (sat_cons (sat_call linkX_no (sat_cons sat_var sat_nil)) (sat_cons sat_var sat_nil)))))))))))⟩
end
end K8

set_option Elab.async false
set_option linter.all false
set_option maxRecDepth 100000
set_option maxHeartbeats 1000000
/-! K8X: texts. -/
namespace K8
open PySem PySem.Spec PyProof.Rows L2 RX
section
variable {P : Program} {w : World} {K : PySem.W.Frag} {mg : Str → Option Value} {base : Heap} {adr : Nat → Addr} {tb : List (Addr × Str)}
theorem sc__law_text_right : FnScope ["_law_pen_here", "_law_row", "_law_words_here", "_law_rule", "_law_turn", "_law_spot", "_law_way", "_law_odd", "_law_wrong", "_law_k", "_law_due", "_law_heard_here"] ["_law_pen_here", "_law_row"] (defScope s__law_text_right) := ⟨rfl, rfl, rfl, by decide +kernel, rfl, by decide +kernel, by decide +kernel⟩
theorem ok__law_text_right {fE fS : Addr} {dE dS : FuncData} {fU : Addr} {dU : FuncData} {pR gR : Addr} {dR : FuncData} {a__law_rules : Addr} {d__law_rules : FuncData} {a__law_words : Addr} {d__law_words : FuncData} {a__law_pick : Addr} {d__law_pick : FuncData} {a__law_draw : Addr} {d__law_draw : FuncData} {gH : Addr} {dH : FuncData} {PB PT cc : Addr} {fa : Addr} {fd : FuncData} (T : Txt K mg adr) (XK : KpF K adr isX isK lackK) (XSt : ∀ c, isS3 c = true → StrC K (adr c) fS) (XO : UpO P w K mg base adr [(PB, qB), (PT, qT)] fE dE fS dS) (XU : UpK P w K mg base adr [(PB, qB), (PT, qT)] 3 fU dU) (XR : UpR P w K mg base adr [(PB, qB), (PT, qT)] 5 pR gR dR) (G__law_rules : FnOk P w K mg base (L2.CX P w) 1 a__law_rules d__law_rules [] (spX adr [(PB, qB), (PT, qT)] 0 0 f_law_rules)) (B__law_rules : DefB K mg "_law_rules" a__law_rules d__law_rules []) (G__law_words : FnOk P w K mg base (L2.CX P w) 1 a__law_words d__law_words ["_law_rule"] (spX adr [(PB, qB), (PT, qT)] 1 0 f_law_words)) (B__law_words : DefB K mg "_law_words" a__law_words d__law_words ["_law_rule"]) (G__law_pick : FnOk P w K mg base (L2.CX P w) 2 a__law_pick d__law_pick ["_law_pen_here", "_law_some"] (spPick adr [(PB, qB), (PT, qT)])) (B__law_pick : DefB K mg "_law_pick" a__law_pick d__law_pick ["_law_pen_here", "_law_some"]) (G__law_draw : FnOk P w K mg base (L2.CX P w) 1 a__law_draw d__law_draw ["_law_pen_here", "_law_many"] (spDraw ())) (B__law_draw : DefB K mg "_law_draw" a__law_draw d__law_draw ["_law_pen_here", "_law_many"]) (XH : ∀ c, isS c = true → PySem.W.exmOne K (.ref (adr c)) (.ref (adr 0)) = some true) (FH : L2.Fun K "_law_heard" "_law_heard" s__law_heard gH dH) (BH : DefB K mg "_law_heard" gH dH ["_law_ask"]) (hne : PB ≠ PT) (TBt : LamX.TabB base mg cc PT) (F : FunC K "_law_text_right" "_law_text_right" s__law_text_right fa fd cc) : FnOk P w K mg base (L2.CX P w) 9 fa fd ["_law_pen_here", "_law_row"] (spX adr [(PB, qB), (PT, qT)] 2 10 f_law_text_right) := by
  obtain ⟨_, kb_none⟩ := XU.pm_none
  obtain ⟨oc, od, kV, doc, pm, an, cdH, ct, osl, rfl, lkH, hcH⟩ := FH.ex
  have hmT : (PT, qT) ∈ [(PB, qB), (PT, qT)] := List.Mem.tail _ (List.Mem.head _)
  have hu : ∀ p ∈ [(PB, qB), (PT, qT)], p.1 = PT → p.2 = qT := by
    intro p hp e
    simp only [List.mem_cons, List.not_mem_nil, or_false] at hp
    rcases hp with rfl | rfl
    · exact absurd e hne
    · rfl
  exact fn_okC (k := 8) F sc__law_text_right rfl rfl fun A outer s H E hr => ⟨_, (pss_cons (ps_set (i := 2) sc__law_text_right.nd rfl (Or.inr rfl) (pe_lc (own := [("_law_rule", 3)]) (g := gName 3) rfl sc__law_text_right.nd (pi_list (pe_call0 G__law_rules (hr.mono (by decide)) (by rfl) B__law_rules.m B__law_rules.k B__law_rules.b .nil passL)) (blkOk_by (N := ["_law_pen_here", "_law_row", "_law_words_here", "_law_rule", "_law_turn", "_law_spot", "_law_way", "_law_odd", "_law_wrong", "_law_k", "_law_due", "_law_heard_here"]) (sc := defScope s__law_text_right) (by decide +kernel)) (fun _ _ _ _ _ => pg_name (i := 3) sc__law_text_right.nd rfl (Or.inl rfl)) (fun _ _ _ _ _ => pts_nil) (fun _ _ _ _ _ => (pe_dget (RX.Room.keys' hr) (pv 1) (pv 3) (fun _ _ => rfl))))) (pss_cons (ps_for (passes_of rfl) rfl (pi_range1 (by rfl) T.z_range (pa_cons pe_int pa_nil)) (pg_name (i := 4) sc__law_text_right.nd rfl (Or.inl rfl)) (pss_cons (ps_par (i := 5) (j := 6) (by rfl) sc__law_text_right.nd rfl rfl (by decide) rfl rfl (pa_cons (pe_call G__law_draw (hr.mono (by decide)) (by rfl) B__law_draw.m B__law_draw.k B__law_draw.b .nil passL (pa_cons (pv 0) (pa_cons pe_int pa_nil))) (pa_cons (pe_call G__law_draw (hr.mono (by decide)) (by rfl) B__law_draw.m B__law_draw.k B__law_draw.b .nil passL (pa_cons (pv 0) (pa_cons pe_int pa_nil))) pa_nil)) (by rfl)) (pss_cons (ps_set (i := 7) sc__law_text_right.nd rfl (Or.inr rfl) (pe_call G__law_pick (hr.mono (by decide)) (by rfl) B__law_pick.m B__law_pick.k B__law_pick.b .nil passL (pa_cons (pv 0) (pa_cons (pe_lst (pa_cons pe_str (pa_cons pe_str (pa_cons pe_str (pa_cons pe_str (pa_cons pe_str (pa_cons pe_str (pa_cons pe_str (pa_cons pe_str (pa_cons pe_str pa_nil)))))))))) pa_nil)))) (pss_cons (ps_set (i := 2) sc__law_text_right.nd rfl (Or.inr rfl) (pe_op op_cat (pe_op op_cat (pe_slice sl_list (pv 2) po_none (po_some (pv 5))) (pe_ifExp (pt_cmpR op_gt (pv 6) pe_int (nomark _)) (pe_lst (pa_cons (pv 7) pa_nil)) (pe_lst pa_nil))) (pe_slice sl_list (pv 2) (po_some (pe_op op_add (pv 5) (pe_callTy call_int1 (by rfl) T.z_int (by decide +kernel) (pa_cons (pe_cmpR op_ne (pv 6) pe_int (nomark _)) pa_nil)))) po_none))) (pss_cons (ps_set (i := 2) sc__law_text_right.nd rfl (Or.inr rfl) (pe_ifExp (pt_cmpR (op_neD (hr.units)) (pv 2) (pe_lst pa_nil) (nomark _)) (pv 2) (pe_lst (pa_cons pe_str pa_nil)))) (pss_cons (ps_setLc (i := 8) (own := [("_law_k", 9)]) (g := gName 9) rfl sc__law_text_right.nd rfl rfl (sw_true rfl rfl rfl (by decide +kernel)) (pi_range1 (by rfl) T.z_range (pa_cons pe_int pa_nil)) (blkOk_by (N := ["_law_pen_here", "_law_row", "_law_words_here", "_law_rule", "_law_turn", "_law_spot", "_law_way", "_law_odd", "_law_wrong", "_law_k", "_law_due", "_law_heard_here"]) (sc := defScope s__law_text_right) (by decide +kernel)) (fun _ _ _ _ _ => pg_name (i := 9) sc__law_text_right.nd rfl (Or.inl rfl)) (fun _ _ _ _ _ => (pts_one (PW.pt (pw_or (pt_cmpR op_ge (pv 9) (pe_callB call_len_seq (by rfl) T.z_len PySem.boot_len (pa_cons (pv 2) pa_nil)) (nomark _)) (pw_or1 (pt_cmpR op_notIn_seq (pe_ix ix_seq (pv 2) (pv 9) (fun _ _ => rfl)) (pe_call G__law_words (hr.mono (by decide)) (by rfl) B__law_words.m B__law_words.k B__law_words.b .nil passL (pa_cons (pe_ix ix_seq (pe_call0 G__law_rules (hr.mono (by decide)) (by rfl) B__law_rules.m B__law_rules.k B__law_rules.b .nil passL) (pv 9) (fun _ _ => rfl)) pa_nil)) (by rfl))))))) (fun _ _ _ _ _ => (pv 9))) (pss_cons (ps_set (i := 10) sc__law_text_right.nd rfl (Or.inl rfl) (pe_ifExp (pt_cmpR (op_neD (hr.units)) (pv 8) (pe_lst pa_nil) (nomark _)) (pe_ix ix_seq (pv 8) pe_int (fun _ _ => rfl)) (pe_ifExp (pt_cmpR op_gt (pe_callB call_len_seq (by rfl) T.z_len PySem.boot_len (pa_cons (pv 2) pa_nil)) pe_int (nomark _)) pe_int pe_non))) (pss_cons (ps_set (i := 11) sc__law_text_right.nd rfl (Or.inl rfl) (LamX.pe_lamcallS (k := 5) (T := [(PB, qB), (PT, qT)]) (TT := LamX.TTheard K NH (.ref (adr 0)) 1 2 3 (trH K adr)) (tl := fun σ E' H' Q' => (ClX.tCMeth (adr 3) (spX adr [(PB, qB), (PT, qT)] 2 3 f_Upkeep_read) E' (tC (.ref (adr 3))) (tCons (tM1 (rJoin K) (tC (.str " ")) (tVar 2)) tNil)) σ H' Q') (a := "_law_ask") (Ng := NH) (by rfl) BH.m BH.k lkH hcH BH.b sc__law_heard rfl (Or.inl rfl) (heard_gives T XK) TBt rfl hmT hu (hr.mono (by decide)) (show LamX.LamS (defScope s__law_text_right) _ from LamX.lamS_by (by decide +kernel)) rfl (fun _ _ _ _ _ => rfl) (fun σ A outer s H E f c' hr => ⟨_, (ClX.pe_cmeth (pe_glob (v := .ref (adr 3)) (by rfl) T.m_Upkeep rfl) XR.r XR.c XR.R (hr.mono (by decide)) (passes_call (takes_of rfl rfl rfl rfl) (fun _ _ _ _ h => h)) (pa_cons (pe_join pe_str (pv 2)) pa_nil)), fun _ _ h => h⟩))) (pss_one (ps_if (pt_ifExp (pt_cmpR op_notN (pv 10) pe_non (nomark _)) (pt_cmpR (op_neD (hr.units)) (pv 11) (pe_tup (pa_cons pe_str (pa_cons pe_int (pa_cons (pv 10) pa_nil)))) (nomark _)) (pt_cmpR op_ne (pe_callTy (call_strN XO.str (hr.mono (by decide)) XO.bs passL) (by rfl) T.z_str (by decide +kernel) (pa_cons (pe_ix ix_seq (pv 11) pe_int (fun _ _ => rfl)) pa_nil)) (pe_join pe_str (pv 2)) (nomark _))) (pss_one (ps_ret pe_bl)) pss_nil)))))))))) (pss_cons (ps_set (i := 7) sc__law_text_right.nd rfl (Or.inr rfl) (pe_call G__law_pick (hr.mono (by decide)) (by rfl) B__law_pick.m B__law_pick.k B__law_pick.b .nil passL (pa_cons (pv 0) (pa_cons (pe_lst (pa_cons pe_non (pa_cons pe_int (pa_cons pe_bl (pa_cons (pv 2) (pa_cons (pe_callTy call_tuple_of (by rfl) T.z_tuple (by decide +kernel) (pa_cons (pv 2) pa_nil)) (pa_cons pe_dnewK (pa_cons (pe_makeK0 XU.M XU.F (hr.mono (by decide)) (by rfl) T.m_Upkeep kb_none passL pk_nil) pa_nil)))))))) pa_nil)))) (pss_one (ps_ret (pe_cmpR (op_eqD (hr.units)) (LamX.pe_lamcallS (k := 5) (T := [(PB, qB), (PT, qT)]) (TT := LamX.TTheard K NH (.ref (adr 0)) 1 2 3 (trH K adr)) (tl := fun σ E' H' Q' => (ClX.tCMeth (adr 3) (spX adr [(PB, qB), (PT, qT)] 2 3 f_Upkeep_read) E' (tC (.ref (adr 3))) (tCons (tVar 7) tNil)) σ H' Q') (a := "_law_ask") (Ng := NH) (by rfl) BH.m BH.k lkH hcH BH.b sc__law_heard rfl (Or.inl rfl) (heard_gives T XK) TBt rfl hmT hu (hr.mono (by decide)) (show LamX.LamS (defScope s__law_text_right) _ from LamX.lamS_by (by decide +kernel)) rfl (fun _ _ _ _ _ => rfl) (fun σ A outer s H E f c' hr => ⟨_, (ClX.pe_cmeth (pe_glob (v := .ref (adr 3)) (by rfl) T.m_Upkeep rfl) XR.r XR.c XR.R (hr.mono (by decide)) (passes_call (takes_of rfl rfl rfl rfl) (fun _ _ _ _ h => h)) (pa_cons (pv 7) pa_nil)), fun _ _ h => h⟩)) (pe_tup (pa_cons pe_str (pa_cons pe_int (pa_cons pe_int pa_nil)))) (nomark _))))))), fun sh ρ x hx => (sat_seq (sat_asg (sat_lc (sat_iLst (sat_call linkX_no sat_nil)) sat_gname (own_name (by decide)) sat_tests_nil (sat_dget sat_var sat_var)) sat_gname) (sat_seq (sat_for4 (sat_forFamT (A := f_textA) (B := f_textB) famA0T famAT famBT (by decide) (by decide) (fun sh => (sat_seq (sat_par (sat_cons (sat_draw (sat_cons sat_var (sat_cons sat_int sat_nil))) (sat_cons (sat_draw (sat_cons sat_var (sat_cons sat_int sat_nil))) sat_nil))) (sat_seq (sat_asg (sat_pick (sat_cons sat_var (sat_cons (sat_lst (sat_cons sat_str (sat_cons sat_str (sat_cons sat_str (sat_cons sat_str (sat_cons sat_str (sat_cons sat_str (sat_cons sat_str (sat_cons sat_str (sat_cons sat_str sat_nil)))))))))) sat_nil))) sat_gname) (sat_seq (sat_asg (sat_op sat_cat (sat_op sat_cat (sat_sl sat_var sat_noPart (sat_part sat_var)) (sat_if (sat_test (sat_op sat_gt sat_var sat_int)) (sat_lst (sat_cons sat_var sat_nil)) (sat_lst sat_nil))) (sat_sl sat_var (sat_part (sat_op sat_add sat_var (sat_cb sat_int1 (sat_cons (sat_op sat_neV sat_var sat_int) sat_nil)))) sat_noPart)) sat_gname) (sat_asg (sat_if (sat_test (sat_op sat_neD sat_var (sat_lst sat_nil))) sat_var (sat_lst (sat_cons sat_str sat_nil))) sat_gname))))) (fun sh => (sat_seq (sat_asg (sat_lc (sat_rng1 (sat_cons sat_int sat_nil)) sat_gname (own_name (by decide)) (sat_or (sat_test (sat_op sat_ge sat_var (sat_cb sat_len_seq (sat_cons sat_var sat_nil)))) (sat_test (sat_op (sat_inS noST_ok) (sat_op (sat_resR (sat_ixS noST_ok)) sat_var sat_var) (sat_call linkX_no (sat_cons (sat_op (sat_resR (sat_ixS noST_ok)) (sat_call linkX_no sat_nil) sat_var) sat_nil))))) sat_var) sat_gname) (sat_seq (sat_asg (sat_if (sat_test (sat_op sat_neD sat_var (sat_lst sat_nil))) (sat_op (sat_resR (sat_ixS noST_ok)) sat_var sat_int) (sat_if (sat_test (sat_op sat_gt (sat_cb sat_len_seq (sat_cons sat_var sat_nil)) sat_int)) sat_int sat_non)) sat_gname) (sat_seq (sat_asg (sat_heard (K := K) (Ng := NH) (cS := .ref (adr 0)) (tr := trH K adr) rfl (by decide) (by decide) (by decide) XH (fun ρ => heard_sat XK) (fun ρ x E0 hx => (sat_cmeth hx (sat_cons (sat_join sat_var) sat_nil)))) sat_gname) (sat_ifS (sat_ifT (sat_test (sat_op sat_notN sat_var sat_non)) (sat_test (sat_op sat_neD sat_var (sat_tup (sat_cons sat_str (sat_cons sat_int (sat_cons sat_var sat_nil)))))) (sat_test (sat_op sat_neV (sat_cb (sat_strO XSt) (sat_cons (sat_op (sat_resR (sat_ixS noST_ok)) sat_var sat_int) sat_nil)) (sat_join sat_var)))) (sat_ret sat_bl) sat_next))))))) (sat_seq (sat_asg (sat_pick (sat_cons sat_var (sat_cons (sat_lst (sat_cons sat_non (sat_cons sat_int (sat_cons sat_bl (sat_cons sat_var (sat_cons (sat_cb (sat_tuple_of (R := fun _ _ _ => True)) (sat_cons sat_var sat_nil)) (sat_cons sat_dnew (sat_cons (sat_mkK pm_none_cons pm_none_rel linkX_no sat_nil) sat_nil)))))))) sat_nil))) sat_gname) (sat_ret (sat_op sat_eqD (sat_heard (K := K) (Ng := NH) (cS := .ref (adr 0)) (tr := trH K adr) rfl (by decide) (by decide) (by decide) XH (fun ρ => heard_sat XK) (fun ρ x E0 hx => (sat_cmeth hx (sat_cons sat_var sat_nil)))) (sat_tup (sat_cons sat_str (sat_cons sat_int (sat_cons sat_int sat_nil)))))))))⟩
end
end K8

set_option Elab.async false
set_option linter.all false
set_option maxRecDepth 100000
set_option maxHeartbeats 4000000
/-! K8H: the pen, a draw, a pick. -/
namespace K8
open PySem PySem.Spec PyProof.Rows L2 RX
theorem sc_law_pen : FnScope ["_law_script"] ["_law_script"] (defScope s__law_pen) := ⟨rfl, rfl, rfl, by decide +kernel, rfl, by decide +kernel, by decide +kernel⟩
theorem sc_law_pick : FnScope ["_law_pen_here", "_law_some"] ["_law_pen_here", "_law_some"] (defScope s__law_pick) := ⟨rfl, rfl, rfl, by decide +kernel, rfl, by decide +kernel, by decide +kernel⟩
theorem sc_law_draw : FnScope ["_law_pen_here", "_law_many", "_law_digit", "_law_spot", "_law_cell", "_law_great", "_law_mixed"] ["_law_pen_here", "_law_many"] (defScope s__law_draw) := ⟨rfl, rfl, rfl, by decide +kernel, rfl, by decide +kernel, by decide +kernel⟩
section
variable {P : Program} {w : World} {K : PySem.W.Frag} {mg : Str → Option Value} {base : Heap} {adr : Nat → Addr}
def spPen (K : PySem.W.Frag) : Sp := fun vs H Q _ => ∃ (a : Addr) (ns : List Int), vs = [.ref a] ∧ SqL K H a (ns.map V.int) ∧ ns.length ≤ 63 ∧
  ∀ (l p : Addr) (ms : List Int) (H' : Hp), l ≠ p → ms.length ≤ 63 → H' l = some (.lst (ms.map V.int)) → H' p = some (.lst [.ref l, .int 0, .int 0]) → (∀ b o, H b = some o → H' b = some o) → Q (.ref p) H'
theorem cut_ints (ns : List Int) (lo hi : Option Int) : ∃ ms : List Int, cutV (ns.map V.int) lo hi = ms.map V.int ∧ ms.length ≤ ns.length := by
  unfold cutV
  rw [← List.map_drop, ← List.map_take]
  refine ⟨_, rfl, ?_⟩
  rw [List.length_take, List.length_drop]
  omega
theorem ok_law_pen {fa : Addr} {fd : FuncData} (T : Txt K mg adr) (F : L2.Fun K "_law_pen" "_law_pen" s__law_pen fa fd) : FnOk P w K mg base CX0 1 fa fd ["_law_script"] (spPen K) := by
  refine F.ok sc_law_pen (fun vs H Q E h => ?_) (fun cdv A outer s H vs Q E hr h => ?_)
  · obtain ⟨a, ns, rfl, _⟩ := h
    rfl
  · obtain ⟨a, ns, rfl, hS, hl, k⟩ := h
    refine ⟨_, pss_one (ps_ret (pe_lst (pa_cons (pe_callTy call_list_of (by rfl) T.z_list (by decide +kernel) (pa_cons (pe_slice sl_list (pv 0) po_none (po_some pe_int)) pa_nil)) (pa_cons pe_int (pa_cons pe_int pa_nil))))), ?_⟩
    obtain ⟨ms, e, hm⟩ := cut_ints ns none (some 61)
    refine ⟨_, rfl, 61, rfl, a, _, rfl, hS, fun c hc => ⟨c, _, rfl, .inl (SqL.of upd_same), fun l hl2 => ⟨(by show 3 ≤ sizeLine; decide), fun p hp => ?_⟩⟩⟩
    have nlp : l ≠ p := fun q => by
      subst q
      rw [upd_same] at hp
      cases hp
    refine k l p ms _ nlp (by omega) ?_ upd_same ?_
    · rw [upd_ne nlp, upd_same, e]
    · intro b o hb
      have key : ∀ {H1 : Hp} {q : Addr} {o1 : HO}, H1 q = none → H1 b = some o → upd H1 q o1 b = some o := fun hq h => by
        rw [upd_ne (fun z => by rw [z, hq] at h; cases h)]
        exact h
      exact key hp (key hl2 (key hc hb))
theorem FnOk.ofCX0 {CX : CXT} {k : Nat} {fa : Addr} {fd : FuncData} {ps : List Str} {sp : Sp} (F : FnOk P w K mg base CX0 k fa fd ps sp) : FnOk P w K mg base CX k fa fd ps sp :=
  ⟨F.len, fun A outer s H args us vs Q E hr he hb hv hs => codeAny_mono (F.run A outer s H args us vs Q E hr he hb hv hs) fun r s' h => by
    cases r with
    | error e => exact False.elim h
    | ok fl => cases fl <;> exact h⟩
theorem ok_law_pick {tb : List (Addr × Str)} {fa fD : Addr} {fd dD : FuncData} (T : Txt K mg adr) (F : L2.Fun K "_law_pick" "_law_pick" s__law_pick fa fd) (G : FnOk P w K mg base CX0 1 fD dD ["_law_pen_here", "_law_many"] (spDraw ())) (B : DefB K mg "_law_draw" fD dD ["_law_pen_here", "_law_many"]) :
    FnOk P w K mg base CX0 2 fa fd ["_law_pen_here", "_law_some"] (spPick adr tb) := by
  refine F.ok sc_law_pick (fun vs H Q E h => ?_) (fun cdv A outer s H vs Q E hr h => ?_)
  · obtain ⟨sh, ρ, S, p, q, b, x, xs, k, hv, _⟩ := h
    exact RelWs.len hv
  · obtain ⟨sh, ρ, S, p, q, b, x, xs, k, hv, D, h1, h2, h3, h0, hlt, hb, hall, L⟩ := h
    refine ⟨_, pss_one (ps_ret (pe_ix ix_seq (pv 1) (pe_call G (hr.mono (by decide)) (by rfl) B.m B.k B.b .nil pass0 (pa_cons (pv 0) (pa_cons (pe_callB call_len_seq (by rfl) T.z_len PySem.boot_len (pa_cons (pv 1) pa_nil)) pa_nil))) (fun _ _ => rfl))), ?_⟩
    cases hv with
    | cons r0 rr =>
      cases rr with
      | cons r1 rr =>
        cases rr
        obtain ⟨ap, ep, rfl⟩ := r0
        obtain ⟨ax, ex, rfl⟩ := r1
        obtain ⟨a, lq, i, g, ns, e1, e2, e3, e4, e5, e6, e7, e8⟩ := pen_at D h1 h2
        rw [ep] at e1; cases e1
        obtain ⟨ax', vs', z1, z2, z3⟩ := seqAt_ok (K := K) D h3
        rw [ex] at z1; cases z1
        have hlen : vs'.length = xs.length := RelWs.len z2
        have hdl : (drawLine : Nat) = 9000000 := rfl
        refine ⟨_, rfl, _, rfl, _, rfl, ax, vs', rfl, z3, ap, lq, i, g, _, ns, rfl, e3, e4, e5, e6, ?_, e8, ?_, ?_, fun d i' g' H' d0 d1 i0 i1 g0 hH => ?_⟩
        · have : (CL.mk adr sh ρ tb).sh = sh := rfl
          omega
        · rw [hlen]; omega
        · rw [hlen]
          have : (100000 : Int) ≤ 2 ^ 9000 := by decide +kernel
          omega
        · rw [hlen] at d1
          have D' := (pen_set D ep e2 e3 e6 e7 i0 i1 g0).same hH
          obtain ⟨n, rfl⟩ := Int.eq_ofNat_of_zero_le d0
          have hn : n < xs.length := by omega
          obtain ⟨v, w1, w2⟩ := RelWs.get z2 (List.getElem?_eq_getElem hn)
          have npx : p ≠ x := by
            intro e
            subst e
            unfold seqAt at h3
            rw [h1] at h3
            cases h3
          have hp : p < S.ob.length := rget_lt h1
          have hat : ∃ us, RelWs ⟨adr, sh, ρ, tb⟩ ρ xs us ∧ (SqL K H' ax us ∨ SqT K H' ax us) := by
            have hx : seqAt (setS S p (.pen q (b + 1))) x = some xs := by
              unfold seqAt at h3 ⊢
              have e : getS (setS S p (.pen q (b + 1))) x = getS S x := by
                unfold getS setS
                rw [rget_rset hp, if_neg npx]
              rw [e]
              exact h3
            obtain ⟨ax', us, y1, y2, y3⟩ := seqAt_ok (K := K) D' hx
            rw [ex] at y1; cases y1
            exact ⟨us, y2, y3⟩
          obtain ⟨us, y2, y3⟩ := hat
          obtain ⟨u, u1, u2⟩ := RelWs.get y2 (List.getElem?_eq_getElem hn)
          have hatI : atI us (n : Int) = some u := atI_nat u1
          have Ds := D'.sym (v := u) (List.getElem_mem hn) u2
          have fin := L _ _ _ _ _ hall pre_know Ds (sym_at D')
          rcases y3 with y3 | y3
          · exact .inl ⟨ax, us, (n : Int), u, rfl, rfl, y3, hatI, fin⟩
          · exact .inr (.inl ⟨ax, us, (n : Int), u, rfl, rfl, y3, hatI, fin⟩)
end
end K8

set_option Elab.async false
set_option linter.all false
set_option maxRecDepth 100000
set_option maxHeartbeats 4000000
/-! K8D: a draw. -/
namespace K8
open PySem PySem.Spec PyProof.Rows L2 RX
section
variable {P : Program} {w : World} {K : PySem.W.Frag} {mg : Str → Option Value} {base : Heap} {adr : Nat → Addr}
theorem ints_dp {H : Hp} : ∀ ns : List Int, DpAll K H (ns.map V.int) (ns.map PyData.int)
  | [] => .nil
  | _ :: l => .cons (.int _) (ints_dp l)
theorem ints_lay : ∀ ns : List Int, PyData.canLayAll0 (ns.map PyData.int) = true
  | [] => rfl
  | _ :: l => by simp [PyData.canLayAll0, PyData.canLay0, ints_lay l]
theorem ints_depth : ∀ ns : List Int, PyData.depthAll (ns.map PyData.int) ≤ 1
  | [] => by simp [PyData.depthAll]
  | _ :: l => by
    have := ints_depth l
    simp [PyData.depthAll, PyData.depth, this]
theorem ints_shaped (ns : List Int) : SeqAt.shaped (.list (ns.map PyData.int)) = true := by
  unfold SeqAt.shaped
  have h1 := ints_lay ns
  have h2 := ints_depth ns
  have h3 : (PyData.list (ns.map PyData.int)).depth ≤ 64 := by simp only [PyData.depth]; omega
  simp [PyData.canLay0, h1, h3]
theorem tnext_of {D : Ends} {σ : L2.St} {H : Hp} (h : D.nx σ H) : tNext D σ H := h
theorem posA : (0 : Int) < 2147483399 := by decide
theorem posB : (0 : Int) < 2147483629 := by decide
theorem posC : (0 : Int) < 2147483563 := by decide
theorem heap0 {H : Hp} {p l0 : Addr} {Y Z : HO} (h : upd H p Y l0 = none) (b : Addr) (o : HO) (e : upd H p Y b = some o) : upd (upd H p Y) l0 Z b = some o := by
  rw [upd_ne (ne_of_none e h)]
  exact e
theorem heap1 {H : Hp} {p l0 : Addr} {Y Z X : HO} (h : upd H p Y l0 = none) (b : Addr) (o : HO) (e : upd H p X b = some o) : upd (upd (upd H p Y) l0 Z) p X b = some o := by
  by_cases hb : b = p
  · subst hb
    rw [upd_same] at e ⊢
    exact e
  · rw [upd_ne hb] at e ⊢
    have e2 : upd H p Y b = some o := by rw [upd_ne hb]; exact e
    rw [upd_ne (ne_of_none e2 h)]
    exact e2
theorem size1 {i : Int} (c : Int) (h0 : 0 ≤ i) (h9 : i < 9000000) : (c % 2147483399 + 77382 * i + 1302).natAbs < 2 ^ 64 := by
  have h1 := Int.emod_nonneg c (show (2147483399 : Int) ≠ 0 by decide)
  have h2 := Int.emod_lt_of_pos c (show (0 : Int) < 2147483399 by decide)
  omega
theorem mix0 (x : Int) : 0 ≤ x % 2147483629 := Int.emod_nonneg x (by decide)
theorem mix1 (x : Int) : x % 2147483629 < 2147483629 := Int.emod_lt_of_pos x (by decide)
theorem size2 {m i : Int} (a : 0 ≤ m) (b : m < 2147483629) (h0 : 0 ≤ i) (h9 : i < 9000000) : (m * (2 * i + 669) + 59550 * i * i + 546).natAbs < 2 ^ 64 := by
  have h1 : m * (2 * i + 669) ≤ 2147483629 * (2 * 9000000 + 669) := Int.mul_le_mul (by omega) (by omega) (by omega) (by decide)
  have h2 : 0 ≤ m * (2 * i + 669) := Int.mul_nonneg a (by omega)
  have h3 : 59550 * i * i ≤ 59550 * 9000000 * 9000000 := Int.mul_le_mul (by omega) (by omega) h0 (by decide)
  have h4 : 0 ≤ 59550 * i * i := Int.mul_nonneg (by omega) h0
  omega
theorem great {c : Int} (h : decide ((10 : Int) ^ (18 : Int).toNat ≤ if c < 0 then -c else c) = true) : 0 ≤ 2 * ((if c < 0 then -c else c) - (10 : Int) ^ (18 : Int).toNat) + (if decide (c < 0) = true then 1 else 0) := by
  have e : (10 : Int) ^ (18 : Int).toNat = 1000000000000000000 := rfl
  have h' := of_decide_eq_true h
  rw [e] at h' ⊢
  by_cases q : c < 0
  · simp only [q, if_true, decide_true] at h' ⊢
    omega
  · simp only [q, if_false, decide_false] at h' ⊢
    simp
    omega
theorem cell_pos {ns : List Int} (h : (!PyData.eqv (.list (ns.map PyData.int)) (.list [])) = true) : (0 : Int) < ((ns.map V.int).length : Int) := by
  cases ns with
  | nil => simp [PyData.eqv, PyData.eqvAll] at h
  | cons a l => simp
theorem cell_at {ns : List Int} {i : Int} (h : (!PyData.eqv (.list (ns.map PyData.int)) (.list [])) = true) : ∃ c : Int, atI (ns.map V.int) (i % ((ns.map V.int).length : Int)) = some (.int c) := by
  have h1 := cell_pos h
  have h2 := Int.emod_nonneg i (show ((ns.map V.int).length : Int) ≠ 0 by omega)
  have h3 := Int.emod_lt_of_pos i h1
  obtain ⟨j, hj⟩ := Int.eq_ofNat_of_zero_le h2
  rw [hj] at h3 ⊢
  have hj2 : j < ns.length := by simpa using h3
  exact ⟨ns[j], atI_nat (by simp [hj2])⟩
theorem ok_law_draw {fa : Addr} {fd : FuncData} (T : Txt K mg adr) (F : L2.Fun K "_law_draw" "_law_draw" s__law_draw fa fd) : FnOk P w K mg base CX0 1 fa fd ["_law_pen_here", "_law_many"] (spDraw ()) := by
  refine F.ok (k := 0) sc_law_draw (fun vs H Q E h => ?_) (fun cdv A outer s H vs Q E hr h => ?_)
  · obtain ⟨p, lq, i, g, n, ns, rfl, _⟩ := h
    rfl
  · obtain ⟨p, lq, i, g, n, ns, rfl, hp, hq, hns, i0, i9, g0, n1, n9, k⟩ := h
    have npq : p ≠ lq := fun e => by
      subst e
      rw [hp] at hq
      cases ns with
      | nil => cases hq
      | cons a l => cases hq
    have hn : 0 < n := by omega
    have wn : ∀ x : Int, CDivW x n := fun x => wide_div (b := 9000) hn (by omega) (by decide) (Nat.le_refl _)
    refine ⟨_, (pss_cons (ps_if (pt_cmpR op_gt (pe_ix ix_list (pv 0) pe_int (fun _ _ => rfl)) pe_int (nomark _)) (pss_cons (ps_set (i := 2) sc_law_draw.nd rfl (Or.inl rfl) (pe_op op_mod (pe_callTy call_int1 (by rfl) T.z_int (by decide +kernel) (pa_cons (pe_ix ix_list (pv 0) pe_int (fun _ _ => rfl)) pa_nil)) (pv 1))) (pss_cons (ps_asg (pe_op op_fdivW (pe_callTy call_int1 (by rfl) T.z_int (by decide +kernel) (pa_cons (pe_ix ix_list (pv 0) pe_int (fun _ _ => rfl)) pa_nil)) (pv 1)) (pg_sub (pv 0) pe_int set_list)) (pss_one (ps_ret (pv 2))))) pss_nil) (pss_cons (ps_set (i := 3) sc_law_draw.nd rfl (Or.inl rfl) (pe_ix ix_list (pv 0) pe_int (fun _ _ => rfl))) (pss_cons (ps_asg (pe_op op_add (pv 3) pe_int) (pg_sub (pv 0) pe_int set_list)) (pss_cons (ps_set (i := 4) sc_law_draw.nd rfl (Or.inl rfl) (pe_op op_add (pe_op op_mul pe_int (pv 3)) pe_int)) (pss_cons (ps_if (pt_cmpR (op_neD hr.units) (pe_ix ix_list (pv 0) pe_int (fun _ _ => rfl)) (pe_lst pa_nil) (nomark _)) (pss_one (ps_set (i := 4) sc_law_draw.nd rfl (Or.inl rfl) (pe_ix ix_list (pe_ix ix_list (pv 0) pe_int (fun _ _ => rfl)) (pe_op op_mod (pe_callTy call_int1 (by rfl) T.z_int (by decide +kernel) (pa_cons (pv 3) pa_nil)) (pe_callB call_len_seq (by rfl) T.z_len PySem.boot_len (pa_cons (pe_ix ix_list (pv 0) pe_int (fun _ _ => rfl)) pa_nil))) (fun _ _ => rfl)))) pss_nil) (pss_cons (ps_if (PW.pt (pw_and (pt_cmpR op_lt (pv 3) (pe_callB call_len_seq (by rfl) T.z_len PySem.boot_len (pa_cons (pe_ix ix_list (pv 0) pe_int (fun _ _ => rfl)) pa_nil)) (nomark _)) (pw_and1 (pt_cmpR op_ge (pe_callB call_abs (by rfl) T.z_abs (by decide +kernel) (pa_cons (pv 4) pa_nil)) (pe_op op_pow pe_int pe_int) (nomark _))))) (pss_cons (ps_set (i := 5) sc_law_draw.nd rfl (Or.inl rfl) (pe_op op_add (pe_op op_mul pe_int (pe_op op_sub (pe_callB call_abs (by rfl) T.z_abs (by decide +kernel) (pa_cons (pv 4) pa_nil)) (pe_op op_pow pe_int pe_int))) (pe_callTy call_int1 (by rfl) T.z_int (by decide +kernel) (pa_cons (pe_cmpR op_lt (pv 4) pe_int (nomark _)) pa_nil)))) (pss_cons (ps_asg (pe_op op_fdivW (pe_callTy call_int1 (by rfl) T.z_int (by decide +kernel) (pa_cons (pv 5) pa_nil)) (pv 1)) (pg_sub (pv 0) pe_int set_list)) (pss_one (ps_ret (pe_op op_mod (pe_callTy call_int1 (by rfl) T.z_int (by decide +kernel) (pa_cons (pv 5) pa_nil)) (pv 1)))))) pss_nil) (pss_cons (ps_set (i := 6) sc_law_draw.nd rfl (Or.inl rfl) (pe_op op_mod (pe_callTy call_int1 (by rfl) T.z_int (by decide +kernel) (pa_cons (pe_op op_pow (pe_op op_add (pe_op op_add (pe_op op_mod (pe_callTy call_int1 (by rfl) T.z_int (by decide +kernel) (pa_cons (pv 4) pa_nil)) pe_int) (pe_op op_mul pe_int (pv 3))) pe_int) pe_int) pa_nil)) pe_int)) (pss_cons (ps_set (i := 6) sc_law_draw.nd rfl (Or.inl rfl) (pe_op op_mod (pe_callTy call_int1 (by rfl) T.z_int (by decide +kernel) (pa_cons (pe_op op_pow (pe_op op_add (pe_op op_add (pe_op op_mul (pv 6) (pe_op op_add (pe_op op_mul pe_int (pv 3)) pe_int)) (pe_op op_mul (pe_op op_mul pe_int (pv 3)) (pv 3))) pe_int) pe_int) pa_nil)) pe_int)) (pss_one (ps_ret (pe_op op_mod (pe_callTy call_int1 (by rfl) T.z_int (by decide +kernel) (pa_cons (pe_op op_fdivW (pv 6) pe_int) pa_nil)) (pv 1)))))))))))), ?_⟩
    refine ⟨_, rfl, p, _, 2, .int g, rfl, rfl, SqL.of hp, rfl, _, _, rfl, rfl, _, rfl, ?_⟩
    refine ite2 (fun hg => ?_) (fun hg => ?_)
    · refine ⟨_, rfl, p, _, 2, .int g, rfl, rfl, SqL.of hp, rfl, .inl ⟨_, rfl, _, rfl, _, _, rfl, rfl, hn, ?_⟩⟩
      refine ⟨_, rfl, p, _, 2, .int g, rfl, rfl, SqL.of hp, rfl, .inl ⟨_, rfl, _, rfl, _, _, rfl, rfl, wn _, ?_⟩⟩
      refine ⟨_, rfl, p, _, 2, 2, rfl, rfl, hp, rfl, ?_⟩
      refine ⟨_, rfl, ?_⟩
      refine k (g % n) i (g / n) _ (Int.emod_nonneg _ (by omega)) (Int.emod_lt_of_pos _ hn) (Int.le_refl _) (by omega) (Int.ediv_nonneg g0 (by omega)) (fun b o e => e)
    · refine ⟨_, rfl, p, _, 1, .int i, rfl, rfl, SqL.of hp, rfl, ?_⟩
      refine ⟨_, rfl, _, _, rfl, rfl, ?_⟩
      refine ⟨_, rfl, p, _, 1, 1, rfl, rfl, hp, rfl, ?_⟩
      refine ⟨_, rfl, _, _, rfl, rfl, .inl ⟨by decide, by decide⟩, _, _, rfl, rfl, ?_⟩
      have hp2 : upd H p (.lst [.ref lq, .int (i + 1), .int g]) p = some (.lst [.ref lq, .int (i + 1), .int g]) := upd_same
      have hq2 : upd H p (.lst [.ref lq, .int (i + 1), .int g]) lq = some (.lst (ns.map V.int)) := by rw [upd_ne npq.symm]; exact hq
      refine ⟨_, rfl, p, _, 0, .ref lq, rfl, rfl, SqL.of hp2, rfl, Nat.zero_le _, fun l0 hl0 => ?_⟩
      have hl1 : upd H p (.lst [.ref lq, .int (i + 1), .int g]) l0 = none := hl0
      have nl1 : lq ≠ l0 := fun e => by
        rw [← e] at hl1
        exact absurd (hq2.symm.trans hl1) (by intro z; cases z)
      have nl2 : p ≠ l0 := fun e => by
        rw [← e] at hl1
        exact absurd (hp2.symm.trans hl1) (by intro z; cases z)
      have hp3 : upd (upd H p (.lst [.ref lq, .int (i + 1), .int g])) l0 (.lst []) p = some (.lst [.ref lq, .int (i + 1), .int g]) := (upd_ne nl2).trans hp2
      have hq3 : upd (upd H p (.lst [.ref lq, .int (i + 1), .int g])) l0 (.lst []) lq = some (.lst (ns.map V.int)) := (upd_ne nl1).trans hq2
      refine ⟨_, _, .lst (SqL.of hq3) (ints_dp ns), .lst (SqL.of upd_same) .nil, ints_shaped ns, ints_shaped [], _, rfl, ?_⟩
      refine ite2 (fun h5 => ?_) (fun h5 => ?_)
      · obtain ⟨c, hc⟩ := cell_at (ns := ns) (i := i) h5
        refine ⟨_, rfl, p, _, 0, .ref lq, rfl, rfl, SqL.of hp3, rfl, _, rfl, .inl ⟨_, rfl, _, rfl, p, _, 0, .ref lq, rfl, rfl, SqL.of hp3, rfl, lq, _, rfl, .inl (SqL.of hq3), _, _, rfl, rfl, ?_, lq, _, _, .int c, rfl, rfl, SqL.of hq3, hc, ?_⟩⟩
        · exact cell_pos h5
        · refine ⟨_, rfl, _, rfl, p, _, 0, .ref lq, rfl, rfl, SqL.of hp3, rfl, lq, _, rfl, .inl (SqL.of hq3), _, _, rfl, rfl, _, rfl, ?_⟩
          refine ite2 (fun h6 => ?_) (fun h6 => ?_)
          · refine ⟨_, rfl, _, rfl, _, _, rfl, rfl, ⟨by decide, by decide, by decide⟩, _, _, rfl, rfl, _, rfl, ?_⟩
            refine ite2 (fun h7 => ?_) (fun h7 => ?_)
            · have hG := great h7
              refine ⟨_, rfl, _, rfl, _, _, rfl, rfl, ⟨by decide, by decide, by decide⟩, _, _, rfl, rfl, _, _, rfl, rfl, .inl ⟨by decide, by decide⟩, _, rfl, _, _, rfl, rfl, .inr ⟨_, rfl, _, _, rfl, rfl, ?_⟩⟩
              refine ⟨_, rfl, .inl ⟨_, rfl, _, rfl, _, _, rfl, rfl, wn _, _, rfl, p, _, 2, 2, rfl, rfl, hp3, rfl, ?_⟩⟩
              refine ⟨_, rfl, .inl ⟨_, rfl, _, rfl, _, _, rfl, rfl, hn, ?_⟩⟩
              exact k _ (i + 1) _ _ (Int.emod_nonneg _ (by omega)) (Int.emod_lt_of_pos _ hn) (by omega) (Int.le_refl _) (Int.ediv_nonneg hG (by omega)) (heap1 hl1)
            · refine ⟨_, rfl, .inl ⟨_, rfl, _, _, rfl, rfl, posA, _, rfl, _, _, rfl, rfl, .inl ⟨by decide, by decide⟩, _, _, rfl, rfl, _, _, rfl, rfl, _, _, rfl, rfl, ⟨by decide, by decide, size1 c i0 i9⟩, .inl ⟨_, rfl, _, _, rfl, rfl, posB, ?_⟩⟩⟩
              have hm0 := mix0 ((c % 2147483399 + 77382 * i + 1302) ^ (5 : Int).toNat)
              have hm1 := mix1 ((c % 2147483399 + 77382 * i + 1302) ^ (5 : Int).toNat)
              refine ⟨_, rfl, _, rfl, _, _, rfl, rfl, .inl ⟨by decide, by decide⟩, _, _, rfl, rfl, _, _, rfl, rfl, .inl ⟨by show -(2 ^ 64) < _; omega, by show _ < 2 ^ 64; omega⟩, _, rfl, _, _, rfl, rfl, .inl ⟨by decide, by decide⟩, _, rfl, _, _, rfl, rfl, .inr ⟨by omega, by omega⟩, _, _, rfl, rfl, _, _, rfl, rfl, _, _, rfl, rfl, ⟨by decide, by decide, size2 hm0 hm1 i0 i9⟩, .inl ⟨_, rfl, _, _, rfl, rfl, posC, ?_⟩⟩
              refine ⟨_, rfl, _, _, rfl, rfl, ⟨by decide, by decide⟩, .inl ⟨_, rfl, _, rfl, _, _, rfl, rfl, hn, ?_⟩⟩
              exact k _ (i + 1) g _ (Int.emod_nonneg _ (by omega)) (Int.emod_lt_of_pos _ hn) (by omega) (Int.le_refl _) g0 (heap0 hl1)
          · refine iteF ?_
            refine ⟨_, rfl, .inl ⟨_, rfl, _, _, rfl, rfl, posA, _, rfl, _, _, rfl, rfl, .inl ⟨by decide, by decide⟩, _, _, rfl, rfl, _, _, rfl, rfl, _, _, rfl, rfl, ⟨by decide, by decide, size1 c i0 i9⟩, .inl ⟨_, rfl, _, _, rfl, rfl, posB, ?_⟩⟩⟩
            have hm0 := mix0 ((c % 2147483399 + 77382 * i + 1302) ^ (5 : Int).toNat)
            have hm1 := mix1 ((c % 2147483399 + 77382 * i + 1302) ^ (5 : Int).toNat)
            refine ⟨_, rfl, _, rfl, _, _, rfl, rfl, .inl ⟨by decide, by decide⟩, _, _, rfl, rfl, _, _, rfl, rfl, .inl ⟨by show -(2 ^ 64) < _; omega, by show _ < 2 ^ 64; omega⟩, _, rfl, _, _, rfl, rfl, .inl ⟨by decide, by decide⟩, _, rfl, _, _, rfl, rfl, .inr ⟨by omega, by omega⟩, _, _, rfl, rfl, _, _, rfl, rfl, _, _, rfl, rfl, ⟨by decide, by decide, size2 hm0 hm1 i0 i9⟩, .inl ⟨_, rfl, _, _, rfl, rfl, posC, ?_⟩⟩
            refine ⟨_, rfl, _, _, rfl, rfl, ⟨by decide, by decide⟩, .inl ⟨_, rfl, _, rfl, _, _, rfl, rfl, hn, ?_⟩⟩
            exact k _ (i + 1) g _ (Int.emod_nonneg _ (by omega)) (Int.emod_lt_of_pos _ hn) (by omega) (Int.le_refl _) g0 (heap0 hl1)

      · refine tnext_of ?_
        refine ⟨_, rfl, _, rfl, p, _, 0, .ref lq, rfl, rfl, SqL.of hp3, rfl, lq, _, rfl, .inl (SqL.of hq3), _, _, rfl, rfl, _, rfl, ?_⟩
        refine ite2 (fun h6 => ?_) (fun h6 => ?_)
        · refine ⟨_, rfl, _, rfl, _, _, rfl, rfl, ⟨by decide, by decide, by decide⟩, _, _, rfl, rfl, _, rfl, ?_⟩
          refine ite2 (fun h7 => ?_) (fun h7 => ?_)
          · have hG := great h7
            refine ⟨_, rfl, _, rfl, _, _, rfl, rfl, ⟨by decide, by decide, by decide⟩, _, _, rfl, rfl, _, _, rfl, rfl, .inl ⟨by decide, by decide⟩, _, rfl, _, _, rfl, rfl, .inr ⟨_, rfl, _, _, rfl, rfl, ?_⟩⟩
            refine ⟨_, rfl, .inl ⟨_, rfl, _, rfl, _, _, rfl, rfl, wn _, _, rfl, p, _, 2, 2, rfl, rfl, hp3, rfl, ?_⟩⟩
            refine ⟨_, rfl, .inl ⟨_, rfl, _, rfl, _, _, rfl, rfl, hn, ?_⟩⟩
            exact k _ (i + 1) _ _ (Int.emod_nonneg _ (by omega)) (Int.emod_lt_of_pos _ hn) (by omega) (Int.le_refl _) (Int.ediv_nonneg hG (by omega)) (heap1 hl1)
          · refine ⟨_, rfl, .inl ⟨_, rfl, _, _, rfl, rfl, posA, _, rfl, _, _, rfl, rfl, .inl ⟨by decide, by decide⟩, _, _, rfl, rfl, _, _, rfl, rfl, _, _, rfl, rfl, ⟨by decide, by decide, size1 _ i0 i9⟩, .inl ⟨_, rfl, _, _, rfl, rfl, posB, ?_⟩⟩⟩
            have hm0 := mix0 (((52376 * i + 6040) % 2147483399 + 77382 * i + 1302) ^ (5 : Int).toNat)
            have hm1 := mix1 (((52376 * i + 6040) % 2147483399 + 77382 * i + 1302) ^ (5 : Int).toNat)
            refine ⟨_, rfl, _, rfl, _, _, rfl, rfl, .inl ⟨by decide, by decide⟩, _, _, rfl, rfl, _, _, rfl, rfl, .inl ⟨by show -(2 ^ 64) < _; omega, by show _ < 2 ^ 64; omega⟩, _, rfl, _, _, rfl, rfl, .inl ⟨by decide, by decide⟩, _, rfl, _, _, rfl, rfl, .inr ⟨by omega, by omega⟩, _, _, rfl, rfl, _, _, rfl, rfl, _, _, rfl, rfl, ⟨by decide, by decide, size2 hm0 hm1 i0 i9⟩, .inl ⟨_, rfl, _, _, rfl, rfl, posC, ?_⟩⟩
            refine ⟨_, rfl, _, _, rfl, rfl, ⟨by decide, by decide⟩, .inl ⟨_, rfl, _, rfl, _, _, rfl, rfl, hn, ?_⟩⟩
            exact k _ (i + 1) g _ (Int.emod_nonneg _ (by omega)) (Int.emod_lt_of_pos _ hn) (by omega) (Int.le_refl _) g0 (heap0 hl1)
        · refine iteF ?_
          refine ⟨_, rfl, .inl ⟨_, rfl, _, _, rfl, rfl, posA, _, rfl, _, _, rfl, rfl, .inl ⟨by decide, by decide⟩, _, _, rfl, rfl, _, _, rfl, rfl, _, _, rfl, rfl, ⟨by decide, by decide, size1 _ i0 i9⟩, .inl ⟨_, rfl, _, _, rfl, rfl, posB, ?_⟩⟩⟩
          have hm0 := mix0 (((52376 * i + 6040) % 2147483399 + 77382 * i + 1302) ^ (5 : Int).toNat)
          have hm1 := mix1 (((52376 * i + 6040) % 2147483399 + 77382 * i + 1302) ^ (5 : Int).toNat)
          refine ⟨_, rfl, _, rfl, _, _, rfl, rfl, .inl ⟨by decide, by decide⟩, _, _, rfl, rfl, _, _, rfl, rfl, .inl ⟨by show -(2 ^ 64) < _; omega, by show _ < 2 ^ 64; omega⟩, _, rfl, _, _, rfl, rfl, .inl ⟨by decide, by decide⟩, _, rfl, _, _, rfl, rfl, .inr ⟨by omega, by omega⟩, _, _, rfl, rfl, _, _, rfl, rfl, _, _, rfl, rfl, ⟨by decide, by decide, size2 hm0 hm1 i0 i9⟩, .inl ⟨_, rfl, _, _, rfl, rfl, posC, ?_⟩⟩
          refine ⟨_, rfl, _, _, rfl, rfl, ⟨by decide, by decide⟩, .inl ⟨_, rfl, _, rfl, _, _, rfl, rfl, hn, ?_⟩⟩
          exact k _ (i + 1) g _ (Int.emod_nonneg _ (by omega)) (Int.emod_lt_of_pos _ hn) (by omega) (Int.le_refl _) g0 (heap0 hl1)
end
end K8

set_option Elab.async false
set_option linter.all false
set_option maxRecDepth 100000
set_option maxHeartbeats 4000000
/-! K8L: the law. -/
namespace K8
open PySem PySem.Spec PyProof.Rows L2 RX
theorem sc_law : FnScope ["_law_script", "_law_pen_here", "_law_turn", "_law_row", "_law_rule"] ["_law_script"] (defScope s_law) := ⟨rfl, rfl, rfl, by decide +kernel, rfl, by decide +kernel, by decide +kernel⟩
section
variable {P : Program} {w : World} {K : PySem.W.Frag} {mg : Str → Option Value} {base : Heap} {adr : Nat → Addr}
def spLaw (K : PySem.W.Frag) (T : List (Addr × Str)) : Sp := fun vs H Q _ => ∃ (a : Addr) (ns : List Int), vs = [.ref a] ∧ SqL K H a (ns.map V.int) ∧ ns.length ≤ 63 ∧ LamX.Tabs T H ∧ ∀ H', Q (.bl true) H'
theorem ok_rest {fE fS : Addr} {dE dS : FuncData} {fU : Addr} {dU : FuncData} {pP gP : Addr} {dP : FuncData} {a__law_rules : Addr} {d__law_rules : FuncData} {a__law_words : Addr} {d__law_words : FuncData} {a__law_book : Addr} {d__law_book : FuncData} {a__law_is : Addr} {d__law_is : FuncData} {a__law_bent_right : Addr} {d__law_bent_right : FuncData} {a__law_text_right : Addr} {d__law_text_right : FuncData} {a__law_pick : Addr} {d__law_pick : FuncData} {PB PT : Addr} (T : Txt K mg adr) (XT : IsF K adr isO isT) (XE : EqF K adr fE isE nfT) (XSt : ∀ c, isS3 c = true → StrC K (adr c) fS) (XO : UpO P w K mg base adr [(PB, qB), (PT, qT)] fE dE fS dS) (XU : UpK P w K mg base adr [(PB, qB), (PT, qT)] 3 fU dU) (XP : UpP P w K mg base adr [(PB, qB), (PT, qT)] 1 pP gP dP) (G__law_rules : FnOk P w K mg base (L2.CX P w) 1 a__law_rules d__law_rules [] (spX adr [(PB, qB), (PT, qT)] 0 0 f_law_rules)) (B__law_rules : DefB K mg "_law_rules" a__law_rules d__law_rules []) (G__law_words : FnOk P w K mg base (L2.CX P w) 1 a__law_words d__law_words ["_law_rule"] (spX adr [(PB, qB), (PT, qT)] 1 0 f_law_words)) (B__law_words : DefB K mg "_law_words" a__law_words d__law_words ["_law_rule"]) (G__law_book : FnOk P w K mg base (L2.CX P w) 5 a__law_book d__law_book ["_law_row"] (spX adr [(PB, qB), (PT, qT)] 1 0 f_law_book)) (B__law_book : DefB K mg "_law_book" a__law_book d__law_book ["_law_row"]) (G__law_is : FnOk P w K mg base (L2.CX P w) 7 a__law_is d__law_is ["_law_book_here", "_law_row"] (spX adr [(PB, qB), (PT, qT)] 2 3 f_law_is)) (B__law_is : DefB K mg "_law_is" a__law_is d__law_is ["_law_book_here", "_law_row"]) (G__law_bent_right : FnOk P w K mg base (L2.CX P w) 9 a__law_bent_right d__law_bent_right ["_law_pen_here", "_law_row"] (spX adr [(PB, qB), (PT, qT)] 2 7 f_law_bent_right)) (B__law_bent_right : DefB K mg "_law_bent_right" a__law_bent_right d__law_bent_right ["_law_pen_here", "_law_row"]) (G__law_text_right : FnOk P w K mg base (L2.CX P w) 9 a__law_text_right d__law_text_right ["_law_pen_here", "_law_row"] (spX adr [(PB, qB), (PT, qT)] 2 10 f_law_text_right)) (B__law_text_right : DefB K mg "_law_text_right" a__law_text_right d__law_text_right ["_law_pen_here", "_law_row"]) (G__law_pick : FnOk P w K mg base (L2.CX P w) 2 a__law_pick d__law_pick ["_law_pen_here", "_law_some"] (spPick adr [(PB, qB), (PT, qT)])) (B__law_pick : DefB K mg "_law_pick" a__law_pick d__law_pick ["_law_pen_here", "_law_some"]) {fa : Addr} {cdv : Value} {A : Around} {outer : List Env} {s : Shared} {H : Hp} {E : XK} (hr : Room 9 (A.deeper (envOfC "law" (defScope s_law) s.heap.objs.size fa cdv))) :
    ∃ t, PSs (cxOf (L2.CX P w) P w K mg base ["_law_script", "_law_pen_here", "_law_turn", "_law_row", "_law_rule"] "law" (defScope s_law) fa cdv A outer s H E) (defBody s_law).tail t ∧ ∀ sh ρ, SatS ⟨adr, sh, ρ, [(PB, qB), (PT, qT)]⟩ (f_rest noX) t := by
  obtain ⟨_, kb_leave⟩ := XU.pm_leave
  obtain ⟨_, kb_none⟩ := XU.pm_none
  obtain ⟨_, kb_merge⟩ := XU.pm_merge
  obtain ⟨_, kb_stay⟩ := XU.pm_stay
  exact ⟨_, (pss_cons (ps_for (passes_of rfl) rfl (pi_range1 (by rfl) T.z_range (pa_cons pe_int pa_nil)) (pg_name (i := 2) sc_law.nd rfl (Or.inl rfl)) (pss_cons (ps_set (i := 3) sc_law.nd rfl (Or.inl rfl) (pe_callTy (call_dictP rfl) (by rfl) T.z_dict (by decide +kernel) (pa_cons (pe_lc (own := [("_law_rule", 4)]) (g := gName 4) rfl sc_law.nd (pi_list (pe_call0 G__law_rules (hr.mono (by decide)) (by rfl) B__law_rules.m B__law_rules.k B__law_rules.b .nil passL)) (blkOk_by (N := ["_law_script", "_law_pen_here", "_law_turn", "_law_row", "_law_rule"]) (sc := defScope s_law) (by decide +kernel)) (fun _ _ _ _ _ => pg_name (i := 4) sc_law.nd rfl (Or.inl rfl)) (fun _ _ _ _ _ => pts_nil) (fun _ _ _ _ _ => (pe_tup (pa_cons (pv 4) (pa_cons (pe_call G__law_pick (hr.mono (by decide)) (by rfl) B__law_pick.m B__law_pick.k B__law_pick.b .nil passL (pa_cons (pv 1) (pa_cons (pe_call G__law_words (hr.mono (by decide)) (by rfl) B__law_words.m B__law_words.k B__law_words.b .nil passL (pa_cons (pv 4) pa_nil)) pa_nil))) pa_nil))))) pa_nil))) (pss_cons (ps_if (PW.pt (pw_or (pt_not (pt_val (pe_call G__law_is (hr.mono (by decide)) (by rfl) B__law_is.m B__law_is.k B__law_is.b .nil passL (pa_cons (pe_call G__law_book (hr.mono (by decide)) (by rfl) B__law_book.m B__law_book.k B__law_book.b .nil passL (pa_cons (pv 3) pa_nil)) (pa_cons (pv 3) pa_nil))))) (pw_or (pt_not (pt_val (pe_call G__law_bent_right (hr.mono (by decide)) (by rfl) B__law_bent_right.m B__law_bent_right.k B__law_bent_right.b .nil passL (pa_cons (pv 1) (pa_cons (pv 3) pa_nil))))) (pw_or1 (pt_not (pt_val (pe_call G__law_text_right (hr.mono (by decide)) (by rfl) B__law_text_right.m B__law_text_right.k B__law_text_right.b .nil passL (pa_cons (pv 1) (pa_cons (pv 3) pa_nil))))))))) (pss_one (ps_ret pe_bl)) pss_nil) (pss_one (ps_if (PW.pt (pw_or (pt_cmpR op_ne (pe_dget (RX.Room.keys' hr) (pe_prop (pe_makeK0 XU.M XU.F (hr.mono (by decide)) (by rfl) T.m_Upkeep kb_stay passL (pk_cons (pe_dget (RX.Room.keys' hr) (pv 3) pe_str (fun _ _ => rfl)) pk_nil)) XP.c XP.p XP.F (hr.mono (by decide)) XP.b .nil passL rfl) pe_str (fun _ _ => rfl)) (pe_dget (RX.Room.keys' hr) (pv 3) pe_str (fun _ _ => rfl)) (nomark _)) (pw_or1 (pt_cmpR op_ne (pe_dget (RX.Room.keys' hr) (pe_prop (pe_makeK0 XU.M XU.F (hr.mono (by decide)) (by rfl) T.m_Upkeep kb_merge passL (pk_cons (pe_dget (RX.Room.keys' hr) (pv 3) pe_str (fun _ _ => rfl)) pk_nil)) XP.c XP.p XP.F (hr.mono (by decide)) XP.b .nil passL rfl) pe_str (fun _ _ => rfl)) pe_str (nomark _))))) (pss_one (ps_ret pe_bl)) pss_nil))))) (pss_one (ps_ret (pe_and (pe_cmpR op_eq (pe_callTy (call_strN XO.str (hr.mono (by decide)) XO.bs passL) (by rfl) T.z_str (by decide +kernel) (pa_cons (pe_makeK0 XU.M XU.F (hr.mono (by decide)) (by rfl) T.m_Upkeep kb_none passL pk_nil) pa_nil)) pe_str (nomark _)) (pe_one (pe_cmpR (op_eqN XO.eq (hr.mono (by decide)) XO.be passL) (pe_makeK0 XU.M XU.F (hr.mono (by decide)) (by rfl) T.m_Upkeep kb_none passL pk_nil) (pe_makeK0 XU.M XU.F (hr.mono (by decide)) (by rfl) T.m_Upkeep kb_leave passL (pk_cons pe_str pk_nil)) (nomark _))))))), fun sh ρ => have hx := linkX_no (cl := ⟨adr, sh, ρ, [(PB, qB), (PT, qT)]⟩) (ρ := ρ) (E := E); (sat_seq (sat_forV (by decide) (fun sh => (sat_keepS (sat_asg (sat_cb sat_dictP (sat_cons (sat_lc (sat_iLst (sat_call linkX_no sat_nil)) sat_gname (own_name (by decide)) sat_tests_nil (sat_tup (sat_cons sat_var (sat_cons (sat_pick (sat_cons sat_var (sat_cons (sat_call linkX_no (sat_cons sat_var sat_nil)) sat_nil))) sat_nil)))) sat_nil)) sat_gname) (sat_seq (sat_ifS (sat_or (sat_not (sat_b (sat_trueT0 ok_isT (sat_cons (sat_call linkX_no (sat_cons sat_var sat_nil)) (sat_cons sat_var sat_nil))))) (sat_or (sat_not (sat_b (sat_trueT0 ok_bentT (sat_cons sat_var (sat_cons sat_var sat_nil))))) (sat_not (sat_b (sat_trueT0 ok_textT (sat_cons sat_var (sat_cons sat_var sat_nil))))))) (sat_ret sat_bl) sat_next) (sat_ifS (sat_or (sat_test (sat_op sat_neV (sat_dget (sat_prop (sat_mkK pm_stay_cons pm_stay_rel linkX_no (sat_cons (sat_dget sat_var sat_str) sat_nil))) sat_str) (sat_dget sat_var sat_str))) (sat_test (sat_op sat_neV (sat_dget (sat_prop (sat_mkK pm_merge_cons pm_merge_rel linkX_no (sat_cons (sat_dget sat_var sat_str) sat_nil))) sat_str) sat_str))) (sat_ret sat_bl) sat_next))))) (sat_ret (sat_andV (sat_op sat_eqV (sat_cb (sat_strO XSt) (sat_cons (sat_mkK pm_none_cons pm_none_rel linkX_no sat_nil) sat_nil)) sat_str) (sat_op (sat_eqO XT XE) (sat_mkK pm_none_cons pm_none_rel linkX_no sat_nil) (sat_mkK pm_leave_cons pm_leave_rel linkX_no (sat_cons sat_str sat_nil))))))⟩
theorem ok_law {fE fS : Addr} {dE dS : FuncData} {fU : Addr} {dU : FuncData} {pP gP : Addr} {dP : FuncData} {a__law_rules : Addr} {d__law_rules : FuncData} {a__law_words : Addr} {d__law_words : FuncData} {a__law_book : Addr} {d__law_book : FuncData} {a__law_is : Addr} {d__law_is : FuncData} {a__law_bent_right : Addr} {d__law_bent_right : FuncData} {a__law_text_right : Addr} {d__law_text_right : FuncData} {a__law_pick : Addr} {d__law_pick : FuncData} {PB PT : Addr} {a__law_pen : Addr} {d__law_pen : FuncData} (T : Txt K mg adr) (XT : IsF K adr isO isT) (XE : EqF K adr fE isE nfT) (XSt : ∀ c, isS3 c = true → StrC K (adr c) fS) (XO : UpO P w K mg base adr [(PB, qB), (PT, qT)] fE dE fS dS) (XU : UpK P w K mg base adr [(PB, qB), (PT, qT)] 3 fU dU) (XP : UpP P w K mg base adr [(PB, qB), (PT, qT)] 1 pP gP dP) (G__law_rules : FnOk P w K mg base (L2.CX P w) 1 a__law_rules d__law_rules [] (spX adr [(PB, qB), (PT, qT)] 0 0 f_law_rules)) (B__law_rules : DefB K mg "_law_rules" a__law_rules d__law_rules []) (G__law_words : FnOk P w K mg base (L2.CX P w) 1 a__law_words d__law_words ["_law_rule"] (spX adr [(PB, qB), (PT, qT)] 1 0 f_law_words)) (B__law_words : DefB K mg "_law_words" a__law_words d__law_words ["_law_rule"]) (G__law_book : FnOk P w K mg base (L2.CX P w) 5 a__law_book d__law_book ["_law_row"] (spX adr [(PB, qB), (PT, qT)] 1 0 f_law_book)) (B__law_book : DefB K mg "_law_book" a__law_book d__law_book ["_law_row"]) (G__law_is : FnOk P w K mg base (L2.CX P w) 7 a__law_is d__law_is ["_law_book_here", "_law_row"] (spX adr [(PB, qB), (PT, qT)] 2 3 f_law_is)) (B__law_is : DefB K mg "_law_is" a__law_is d__law_is ["_law_book_here", "_law_row"]) (G__law_bent_right : FnOk P w K mg base (L2.CX P w) 9 a__law_bent_right d__law_bent_right ["_law_pen_here", "_law_row"] (spX adr [(PB, qB), (PT, qT)] 2 7 f_law_bent_right)) (B__law_bent_right : DefB K mg "_law_bent_right" a__law_bent_right d__law_bent_right ["_law_pen_here", "_law_row"]) (G__law_text_right : FnOk P w K mg base (L2.CX P w) 9 a__law_text_right d__law_text_right ["_law_pen_here", "_law_row"] (spX adr [(PB, qB), (PT, qT)] 2 10 f_law_text_right)) (B__law_text_right : DefB K mg "_law_text_right" a__law_text_right d__law_text_right ["_law_pen_here", "_law_row"]) (G__law_pick : FnOk P w K mg base (L2.CX P w) 2 a__law_pick d__law_pick ["_law_pen_here", "_law_some"] (spPick adr [(PB, qB), (PT, qT)])) (B__law_pick : DefB K mg "_law_pick" a__law_pick d__law_pick ["_law_pen_here", "_law_some"]) (G__law_pen : FnOk P w K mg base (L2.CX P w) 1 a__law_pen d__law_pen ["_law_script"] (spPen K)) (B__law_pen : DefB K mg "_law_pen" a__law_pen d__law_pen ["_law_script"]) {fa : Addr} {fd : FuncData} (F : L2.Fun K "law" "law" s_law fa fd) :
    FnOk P w K mg base (L2.CX P w) 10 fa fd ["_law_script"] (spLaw K [(PB, qB), (PT, qT)]) := by
  obtain ⟨oc, od, kV, doc, pm, an, cdv, ct, osl, rfl, lk, hcd⟩ := F.ex
  refine fn_of (k := 9) lk hcd sc_law (fun vs H Q E h => ?_) (fun A outer s H vs Q E hr h => ?_)
  · obtain ⟨a, ns, rfl, _⟩ := h
    rfl
  · obtain ⟨a, ns, rfl, hS, hl, hT, k⟩ := h
    obtain ⟨t, h1, h2⟩ := ok_rest (P := P) (w := w) (mg := mg) (base := base) (adr := adr) T XT XE XSt XO XU XP G__law_rules B__law_rules G__law_words B__law_words G__law_book B__law_book G__law_is B__law_is G__law_bent_right B__law_bent_right G__law_text_right B__law_text_right G__law_pick B__law_pick (outer := outer) (s := s) (H := H) (E := E) (cdv := cdv) (fa := fa) hr
    refine ⟨_, pss_cons (ps_set (i := 1) sc_law.nd rfl (Or.inr rfl) (pe_call G__law_pen (hr.mono (by decide)) (by rfl) B__law_pen.m B__law_pen.k B__law_pen.b .nil passL (pa_cons (pv 0) pa_nil))) h1, ?_⟩
    refine ⟨_, rfl, a, ns, rfl, hS, hl, fun l p ms H' nlp hm e1 e2 hk => ?_⟩
    refine h2 0 ⟨[l, p], []⟩ ⟨[l, p], []⟩ E0 S0 _ H' kEnd _ ?_ ⟨rfl, ?_, ?_, ?_, ?_, ?_⟩ law_true ⟨?_, ?_, ?_, ?_⟩
    · refine .cons (fun w e => nomatch e) (.cons (fun w e => ?_) ?_)
      · cases e
        exact ⟨_, rfl, p, rfl, rfl⟩
      · exact .cons (fun w e => nomatch e) (.cons (fun w e => nomatch e) (.cons (fun w e => nomatch e) .nil))
    · exact ⟨rfl, fun k ws h => nomatch h⟩
    · simpa using nlp
    · intro k o b h1 h2
      match k, h1, h2 with
      | 0, h1, h2 =>
        have h1 : some OB.cells = some o := h1
        cases h1
        cases h2
        exact ⟨_, e1, ms, rfl, hm⟩
      | 1, h1, h2 =>
        have h1 : some (OB.pen 0 0) = some o := h1
        cases h1
        cases h2
        exact ⟨_, e2, l, 0, 0, rfl, rfl, Int.le_refl _, (by show (0 : Int) + ((0 : Nat) : Int) ≤ ((0 : Nat) : Int); decide), Int.le_refl _⟩
      | k + 2, h1, _ =>
        have h1 : none = some o := h1
        cases h1
    · exact ⟨⟨[], rfl⟩, [], rfl⟩
    · exact fun q hq => (hT q hq).ext hk
    · exact fun w S' ρ' v H' h _ _ _ => ff h
    · intro w S' ρ' v H' h _ _ r
      unfold kEnd endK at h
      cases w with
      | bl b =>
        cases b with
        | true =>
          obtain rfl : v = .bl true := r
          exact k H'
        | false => exact ff h
      | _ => exact ff h
    · exact fun w S' ρ' v H' h _ _ _ => ff h
    · exact fun w S' ρ' v H' h _ _ _ => ff h
end
end K8

set_option Elab.async false
set_option linter.all false
set_option maxRecDepth 100000
set_option maxHeartbeats 4000000
/-! K8Y: how the class Upkeep takes its arguments. -/
namespace K8
open PySem PySem.Spec PyProof.Rows L2 RX
theorem arr_all_rel : ∀ {mz zs : List V} {mv ws : List Value}, Vals mz mv → Vals zs ws → Vals (arr_all mz zs) (arr_all mv ws)
  | _, _, _, _, .nil, .nil => .nil
  | _, _, _, _, .nil, (.cons r0 .nil) => (.cons r0 .nil)
  | _, _, _, _, .nil, (.cons r0 (.cons r1 .nil)) => (.cons r0 (.cons r1 .nil))
  | _, _, _, _, .nil, (.cons r0 (.cons r1 (.cons r2 .nil))) => (.cons r0 (.cons r1 (.cons r2 .nil)))
  | _, _, _, _, .nil, (.cons r0 (.cons r1 (.cons r2 (.cons r3 .nil)))) => (.cons r0 (.cons r1 (.cons r2 (.cons r3 .nil))))
  | _, _, _, _, .nil, (.cons r0 (.cons r1 (.cons r2 (.cons r3 (.cons r4 .nil))))) => (.cons r0 (.cons r1 (.cons r2 (.cons r3 (.cons r4 .nil)))))
  | _, _, _, _, .nil, (.cons r0 (.cons r1 (.cons r2 (.cons r3 (.cons r4 (.cons r5 .nil)))))) => (.cons r0 (.cons r1 (.cons r2 (.cons r3 (.cons r4 (.cons r5 .nil))))))
  | _, _, _, _, .nil, (.cons r0 (.cons r1 (.cons r2 (.cons r3 (.cons r4 (.cons r5 (.cons r6 .nil))))))) => (.cons r0 (.cons r1 (.cons r2 (.cons r3 (.cons r4 (.cons r5 (.cons r6 .nil)))))))
  | _, _, _, _, .nil, (.cons r0 (.cons r1 (.cons r2 (.cons r3 (.cons r4 (.cons r5 (.cons r6 (.cons r7 .nil)))))))) => (.cons r7 (.cons r6 (.cons r5 (.cons r4 (.cons r3 (.cons r2 (.cons r1 (.cons r0 .nil))))))))
  | _, _, _, _, .nil, (.cons r0 (.cons r1 (.cons r2 (.cons r3 (.cons r4 (.cons r5 (.cons r6 (.cons r7 (.cons r8 t))))))))) => (.cons r0 (.cons r1 (.cons r2 (.cons r3 (.cons r4 (.cons r5 (.cons r6 (.cons r7 (.cons r8 t)))))))))
  | _, _, _, _, (.cons s0 _), h => h
theorem arr_leave_rel : ∀ {mz zs : List V} {mv ws : List Value}, Vals mz mv → Vals zs ws → Vals (arr_leave mz zs) (arr_leave mv ws)
  | _, _, _, _, .nil, h => h
  | _, _, _, _, (.cons s0 .nil), h => h
  | _, _, _, _, (.cons s0 (.cons s1 .nil)), h => h
  | _, _, _, _, (.cons s0 (.cons s1 (.cons s2 .nil))), h => h
  | _, _, _, _, (.cons s0 (.cons s1 (.cons s2 (.cons s3 .nil)))), h => h
  | _, _, _, _, (.cons s0 (.cons s1 (.cons s2 (.cons s3 (.cons s4 .nil))))), h => h
  | _, _, _, _, (.cons s0 (.cons s1 (.cons s2 (.cons s3 (.cons s4 (.cons s5 .nil)))))), h => h
  | _, _, _, _, (.cons s0 (.cons s1 (.cons s2 (.cons s3 (.cons s4 (.cons s5 (.cons s6 .nil))))))), .nil => .nil
  | _, _, _, _, (.cons s0 (.cons s1 (.cons s2 (.cons s3 (.cons s4 (.cons s5 (.cons s6 .nil))))))), (.cons r0 .nil) => (.cons s0 (.cons s1 (.cons s2 (.cons s3 (.cons r0 (.cons s4 (.cons s5 (.cons s6 .nil))))))))
  | _, _, _, _, (.cons s0 (.cons s1 (.cons s2 (.cons s3 (.cons s4 (.cons s5 (.cons s6 .nil))))))), (.cons r0 (.cons r1 t)) => (.cons r0 (.cons r1 t))
  | _, _, _, _, (.cons s0 (.cons s1 (.cons s2 (.cons s3 (.cons s4 (.cons s5 (.cons s6 (.cons s7 _)))))))), h => h
theorem arr_merge_rel : ∀ {mz zs : List V} {mv ws : List Value}, Vals mz mv → Vals zs ws → Vals (arr_merge mz zs) (arr_merge mv ws)
  | _, _, _, _, .nil, h => h
  | _, _, _, _, (.cons s0 .nil), h => h
  | _, _, _, _, (.cons s0 (.cons s1 .nil)), h => h
  | _, _, _, _, (.cons s0 (.cons s1 (.cons s2 .nil))), h => h
  | _, _, _, _, (.cons s0 (.cons s1 (.cons s2 (.cons s3 .nil)))), h => h
  | _, _, _, _, (.cons s0 (.cons s1 (.cons s2 (.cons s3 (.cons s4 .nil))))), h => h
  | _, _, _, _, (.cons s0 (.cons s1 (.cons s2 (.cons s3 (.cons s4 (.cons s5 .nil)))))), h => h
  | _, _, _, _, (.cons s0 (.cons s1 (.cons s2 (.cons s3 (.cons s4 (.cons s5 (.cons s6 .nil))))))), .nil => .nil
  | _, _, _, _, (.cons s0 (.cons s1 (.cons s2 (.cons s3 (.cons s4 (.cons s5 (.cons s6 .nil))))))), (.cons r0 .nil) => (.cons s0 (.cons s1 (.cons s2 (.cons s3 (.cons s4 (.cons s5 (.cons r0 (.cons s6 .nil))))))))
  | _, _, _, _, (.cons s0 (.cons s1 (.cons s2 (.cons s3 (.cons s4 (.cons s5 (.cons s6 .nil))))))), (.cons r0 (.cons r1 t)) => (.cons r0 (.cons r1 t))
  | _, _, _, _, (.cons s0 (.cons s1 (.cons s2 (.cons s3 (.cons s4 (.cons s5 (.cons s6 (.cons s7 _)))))))), h => h
theorem arr_none_rel : ∀ {mz zs : List V} {mv ws : List Value}, Vals mz mv → Vals zs ws → Vals (arr_none mz zs) (arr_none mv ws)
  | _, _, _, _, .nil, h => h
  | _, _, _, _, (.cons s0 .nil), h => h
  | _, _, _, _, (.cons s0 (.cons s1 .nil)), h => h
  | _, _, _, _, (.cons s0 (.cons s1 (.cons s2 .nil))), h => h
  | _, _, _, _, (.cons s0 (.cons s1 (.cons s2 (.cons s3 .nil)))), h => h
  | _, _, _, _, (.cons s0 (.cons s1 (.cons s2 (.cons s3 (.cons s4 .nil))))), h => h
  | _, _, _, _, (.cons s0 (.cons s1 (.cons s2 (.cons s3 (.cons s4 (.cons s5 .nil)))))), h => h
  | _, _, _, _, (.cons s0 (.cons s1 (.cons s2 (.cons s3 (.cons s4 (.cons s5 (.cons s6 .nil))))))), h => h
  | _, _, _, _, (.cons s0 (.cons s1 (.cons s2 (.cons s3 (.cons s4 (.cons s5 (.cons s6 (.cons s7 .nil)))))))), _ => (.cons s0 (.cons s1 (.cons s2 (.cons s3 (.cons s4 (.cons s5 (.cons s6 (.cons s7 .nil))))))))
  | _, _, _, _, (.cons s0 (.cons s1 (.cons s2 (.cons s3 (.cons s4 (.cons s5 (.cons s6 (.cons s7 (.cons s8 _))))))))), h => h
theorem arr_star_rel : ∀ {mz zs : List V} {mv ws : List Value}, Vals mz mv → Vals zs ws → Vals (arr_star mz zs) (arr_star mv ws)
  | _, _, _, _, .nil, .nil => .nil
  | _, _, _, _, .nil, (.cons r0 .nil) => (.cons r0 .nil)
  | _, _, _, _, .nil, (.cons r0 (.cons r1 .nil)) => (.cons r0 (.cons r1 .nil))
  | _, _, _, _, .nil, (.cons r0 (.cons r1 (.cons r2 .nil))) => (.cons r0 (.cons r1 (.cons r2 .nil)))
  | _, _, _, _, .nil, (.cons r0 (.cons r1 (.cons r2 (.cons r3 .nil)))) => (.cons r0 (.cons r1 (.cons r2 (.cons r3 .nil))))
  | _, _, _, _, .nil, (.cons r0 (.cons r1 (.cons r2 (.cons r3 (.cons r4 .nil))))) => (.cons r0 (.cons r1 (.cons r2 (.cons r3 (.cons r4 .nil)))))
  | _, _, _, _, .nil, (.cons r0 (.cons r1 (.cons r2 (.cons r3 (.cons r4 (.cons r5 .nil)))))) => (.cons r0 (.cons r1 (.cons r2 (.cons r3 (.cons r4 (.cons r5 .nil))))))
  | _, _, _, _, .nil, (.cons r0 (.cons r1 (.cons r2 (.cons r3 (.cons r4 (.cons r5 (.cons r6 .nil))))))) => (.cons r0 (.cons r1 (.cons r2 (.cons r3 (.cons r4 (.cons r5 (.cons r6 .nil)))))))
  | _, _, _, _, .nil, (.cons r0 (.cons r1 (.cons r2 (.cons r3 (.cons r4 (.cons r5 (.cons r6 (.cons r7 .nil)))))))) => (.cons r0 (.cons r1 (.cons r2 (.cons r3 (.cons r4 (.cons r5 (.cons r6 (.cons r7 .nil))))))))
  | _, _, _, _, .nil, (.cons r0 (.cons r1 (.cons r2 (.cons r3 (.cons r4 (.cons r5 (.cons r6 (.cons r7 (.cons r8 t))))))))) => (.cons r0 (.cons r1 (.cons r2 (.cons r3 (.cons r4 (.cons r5 (.cons r6 (.cons r7 (.cons r8 t)))))))))
  | _, _, _, _, (.cons s0 _), h => h
theorem arr_stay_rel : ∀ {mz zs : List V} {mv ws : List Value}, Vals mz mv → Vals zs ws → Vals (arr_stay mz zs) (arr_stay mv ws)
  | _, _, _, _, .nil, h => h
  | _, _, _, _, (.cons s0 .nil), h => h
  | _, _, _, _, (.cons s0 (.cons s1 .nil)), h => h
  | _, _, _, _, (.cons s0 (.cons s1 (.cons s2 .nil))), h => h
  | _, _, _, _, (.cons s0 (.cons s1 (.cons s2 (.cons s3 .nil)))), h => h
  | _, _, _, _, (.cons s0 (.cons s1 (.cons s2 (.cons s3 (.cons s4 .nil))))), h => h
  | _, _, _, _, (.cons s0 (.cons s1 (.cons s2 (.cons s3 (.cons s4 (.cons s5 .nil)))))), h => h
  | _, _, _, _, (.cons s0 (.cons s1 (.cons s2 (.cons s3 (.cons s4 (.cons s5 (.cons s6 .nil))))))), .nil => .nil
  | _, _, _, _, (.cons s0 (.cons s1 (.cons s2 (.cons s3 (.cons s4 (.cons s5 (.cons s6 .nil))))))), (.cons r0 .nil) => (.cons s0 (.cons s1 (.cons s2 (.cons r0 (.cons s3 (.cons s4 (.cons s5 (.cons s6 .nil))))))))
  | _, _, _, _, (.cons s0 (.cons s1 (.cons s2 (.cons s3 (.cons s4 (.cons s5 (.cons s6 .nil))))))), (.cons r0 (.cons r1 t)) => (.cons r0 (.cons r1 t))
  | _, _, _, _, (.cons s0 (.cons s1 (.cons s2 (.cons s3 (.cons s4 (.cons s5 (.cons s6 (.cons s7 _)))))))), h => h
theorem kb_all {K : PySem.W.Frag} {fa : Addr} {fd : FuncData} (F : FunD K "__init__" "Upkeep.__init__" (defArgs s_Upkeep_init) (defBody s_Upkeep_init) (defScope s_Upkeep_init) [] kwsU fa fd) : ∃ g, KBn K fd ["self", "begin", "grow", "touch", "stay", "leave", "drop", "merge", "split"] 1 ["split", "merge", "drop", "leave", "stay", "touch", "grow", "begin"] g (fun vs zs => vs ++ pv_all zs) := by
  obtain ⟨mv, h⟩ := F.kbinds0 (ps := ["self", "begin", "grow", "touch", "stay", "leave", "drop", "merge", "split"]) 1 ["split", "merge", "drop", "leave", "stay", "touch", "grow", "begin"] [] (fun {α} us mz ws => us ++ arr_all mz ws) (by unfold kwsU; simp) (by unfold kwsU; simp) (fun r1 r2 r3 => r1.append (arr_all_rel r2 r3))
    (fun D doc pm an cdv ct us mv ws h1 h2 h3 => match us, mv, ws, h1, h2, h3 with | [_], [], [_, _, _, _, _, _, _, _], _, _, _ => rfl)
  exact ⟨_, h⟩
theorem kb_leave {K : PySem.W.Frag} {fa : Addr} {fd : FuncData} (F : FunD K "__init__" "Upkeep.__init__" (defArgs s_Upkeep_init) (defBody s_Upkeep_init) (defScope s_Upkeep_init) [] kwsU fa fd) : ∃ g, KBn K fd ["self", "begin", "grow", "touch", "stay", "leave", "drop", "merge", "split"] 1 ["leave"] g (fun vs zs => vs ++ pv_leave zs) := by
  obtain ⟨mv, h⟩ := F.kbinds0 (ps := ["self", "begin", "grow", "touch", "stay", "leave", "drop", "merge", "split"]) 1 ["leave"] [("begin", .str "take"), ("grow", .str "take"), ("touch", .str "keep"), ("stay", .str "keep"), ("drop", .str "keep"), ("merge", .str "take"), ("split", .str "bound")] (fun {α} us mz ws => us ++ arr_leave mz ws) (by unfold kwsU; simp) (by unfold kwsU; simp) (fun r1 r2 r3 => r1.append (arr_leave_rel r2 r3))
    (fun D doc pm an cdv ct us mv ws h1 h2 h3 => match us, mv, ws, h1, h2, h3 with | [_], [_, _, _, _, _, _, _], [_], _, _, _ => ⟨_, _, _, _, _, _, rfl, rfl, ⟨_, _, _, _, _, _, rfl, rfl, ⟨_, _, _, _, _, _, rfl, rfl, ⟨_, _, _, _, _, _, rfl, rfl, ⟨_, _, _, _, _, _, rfl, rfl, ⟨_, _, _, _, _, _, rfl, rfl, ⟨_, _, _, _, _, _, rfl, rfl, rfl⟩⟩⟩⟩⟩⟩⟩)
  exact ⟨_, h⟩
theorem kb_merge {K : PySem.W.Frag} {fa : Addr} {fd : FuncData} (F : FunD K "__init__" "Upkeep.__init__" (defArgs s_Upkeep_init) (defBody s_Upkeep_init) (defScope s_Upkeep_init) [] kwsU fa fd) : ∃ g, KBn K fd ["self", "begin", "grow", "touch", "stay", "leave", "drop", "merge", "split"] 1 ["merge"] g (fun vs zs => vs ++ pv_merge zs) := by
  obtain ⟨mv, h⟩ := F.kbinds0 (ps := ["self", "begin", "grow", "touch", "stay", "leave", "drop", "merge", "split"]) 1 ["merge"] [("begin", .str "take"), ("grow", .str "take"), ("touch", .str "keep"), ("stay", .str "keep"), ("leave", .str "bound"), ("drop", .str "keep"), ("split", .str "bound")] (fun {α} us mz ws => us ++ arr_merge mz ws) (by unfold kwsU; simp) (by unfold kwsU; simp) (fun r1 r2 r3 => r1.append (arr_merge_rel r2 r3))
    (fun D doc pm an cdv ct us mv ws h1 h2 h3 => match us, mv, ws, h1, h2, h3 with | [_], [_, _, _, _, _, _, _], [_], _, _, _ => ⟨_, _, _, _, _, _, rfl, rfl, ⟨_, _, _, _, _, _, rfl, rfl, ⟨_, _, _, _, _, _, rfl, rfl, ⟨_, _, _, _, _, _, rfl, rfl, ⟨_, _, _, _, _, _, rfl, rfl, ⟨_, _, _, _, _, _, rfl, rfl, ⟨_, _, _, _, _, _, rfl, rfl, rfl⟩⟩⟩⟩⟩⟩⟩)
  exact ⟨_, h⟩
theorem kb_none {K : PySem.W.Frag} {fa : Addr} {fd : FuncData} (F : FunD K "__init__" "Upkeep.__init__" (defArgs s_Upkeep_init) (defBody s_Upkeep_init) (defScope s_Upkeep_init) [] kwsU fa fd) : ∃ g, KBn K fd ["self", "begin", "grow", "touch", "stay", "leave", "drop", "merge", "split"] 1 [] g (fun vs zs => vs ++ pv_none zs) := by
  obtain ⟨mv, h⟩ := F.kbinds0 (ps := ["self", "begin", "grow", "touch", "stay", "leave", "drop", "merge", "split"]) 1 [] [("begin", .str "take"), ("grow", .str "take"), ("touch", .str "keep"), ("stay", .str "keep"), ("leave", .str "bound"), ("drop", .str "keep"), ("merge", .str "take"), ("split", .str "bound")] (fun {α} us mz ws => us ++ arr_none mz ws) (by unfold kwsU; simp) (by unfold kwsU; simp) (fun r1 r2 r3 => r1.append (arr_none_rel r2 r3))
    (fun D doc pm an cdv ct us mv ws h1 h2 h3 => match us, mv, ws, h1, h2, h3 with | [_], [_, _, _, _, _, _, _, _], [], _, _, _ => ⟨_, _, _, _, _, _, rfl, rfl, ⟨_, _, _, _, _, _, rfl, rfl, ⟨_, _, _, _, _, _, rfl, rfl, ⟨_, _, _, _, _, _, rfl, rfl, ⟨_, _, _, _, _, _, rfl, rfl, ⟨_, _, _, _, _, _, rfl, rfl, ⟨_, _, _, _, _, _, rfl, rfl, ⟨_, _, _, _, _, _, rfl, rfl, rfl⟩⟩⟩⟩⟩⟩⟩⟩)
  exact ⟨_, h⟩
theorem kb_star {K : PySem.W.Frag} {fa : Addr} {fd : FuncData} (F : FunD K "__init__" "Upkeep.__init__" (defArgs s_Upkeep_init) (defBody s_Upkeep_init) (defScope s_Upkeep_init) [] kwsU fa fd) : ∃ g, KBn K fd ["self", "begin", "grow", "touch", "stay", "leave", "drop", "merge", "split"] 1 ["begin", "grow", "touch", "stay", "leave", "drop", "merge", "split"] g (fun vs zs => vs ++ pv_star zs) := by
  obtain ⟨mv, h⟩ := F.kbinds0 (ps := ["self", "begin", "grow", "touch", "stay", "leave", "drop", "merge", "split"]) 1 ["begin", "grow", "touch", "stay", "leave", "drop", "merge", "split"] [] (fun {α} us mz ws => us ++ arr_star mz ws) (by unfold kwsU; simp) (by unfold kwsU; simp) (fun r1 r2 r3 => r1.append (arr_star_rel r2 r3))
    (fun D doc pm an cdv ct us mv ws h1 h2 h3 => match us, mv, ws, h1, h2, h3 with | [_], [], [_, _, _, _, _, _, _, _], _, _, _ => rfl)
  exact ⟨_, h⟩
theorem kb_stay {K : PySem.W.Frag} {fa : Addr} {fd : FuncData} (F : FunD K "__init__" "Upkeep.__init__" (defArgs s_Upkeep_init) (defBody s_Upkeep_init) (defScope s_Upkeep_init) [] kwsU fa fd) : ∃ g, KBn K fd ["self", "begin", "grow", "touch", "stay", "leave", "drop", "merge", "split"] 1 ["stay"] g (fun vs zs => vs ++ pv_stay zs) := by
  obtain ⟨mv, h⟩ := F.kbinds0 (ps := ["self", "begin", "grow", "touch", "stay", "leave", "drop", "merge", "split"]) 1 ["stay"] [("begin", .str "take"), ("grow", .str "take"), ("touch", .str "keep"), ("leave", .str "bound"), ("drop", .str "keep"), ("merge", .str "take"), ("split", .str "bound")] (fun {α} us mz ws => us ++ arr_stay mz ws) (by unfold kwsU; simp) (by unfold kwsU; simp) (fun r1 r2 r3 => r1.append (arr_stay_rel r2 r3))
    (fun D doc pm an cdv ct us mv ws h1 h2 h3 => match us, mv, ws, h1, h2, h3 with | [_], [_, _, _, _, _, _, _], [_], _, _, _ => ⟨_, _, _, _, _, _, rfl, rfl, ⟨_, _, _, _, _, _, rfl, rfl, ⟨_, _, _, _, _, _, rfl, rfl, ⟨_, _, _, _, _, _, rfl, rfl, ⟨_, _, _, _, _, _, rfl, rfl, ⟨_, _, _, _, _, _, rfl, rfl, ⟨_, _, _, _, _, _, rfl, rfl, rfl⟩⟩⟩⟩⟩⟩⟩)
  exact ⟨_, h⟩
end K8

set_option Elab.async false
set_option linter.all false
set_option maxRecDepth 100000
set_option maxHeartbeats 4000000
/-! K8Z: what the top has written, and the law over it. -/
namespace K8
open PySem PySem.Spec PyProof.Rows L2 RX
def fnd (K : PySem.W.Frag) (C : Addr) (x : Str) (s : String) : Bool := match PySem.W.findIn K (.ref C) x with
  | some (some (.builtin t)) => decide (t = s)
  | _ => false
def fndA (K : PySem.W.Frag) (C : Addr) (x : Str) (a : Addr) : Bool := match PySem.W.findIn K (.ref C) x with
  | some (some (.ref b)) => Nat.beq b a
  | _ => false
def non (K : PySem.W.Frag) (C : Addr) (x : Str) : Bool := match PySem.W.findIn K (.ref C) x with
  | some none => true
  | _ => false
def bT : Option Bool → Bool
  | some true => true
  | _ => false
def kitX (K : PySem.W.Frag) (t u : Value) (b : Bool) : Bool := match PySem.W.kitOne K t u with
  | some c => (match c, b with
    | true, true => true
    | false, false => true
    | _, _ => false)
  | none => false
def spB (K : PySem.W.Frag) (v : Value) (x : Str) (s : String) : Bool := match PySem.W.specialIn K v x with
  | some (some (.builtin t)) => decide (t = s)
  | _ => false
def tyB (K : PySem.W.Frag) (v : Value) (s : String) : Bool := match PySem.W.typeIn K v with
  | some (.type t) => decide (t = s)
  | _ => false
def allN (f : Nat → Bool) : Nat → Bool
  | 0 => true
  | n + 1 => f n && allN f n
theorem allN_ok {f : Nat → Bool} : ∀ {n i : Nat}, allN f n = true → i < n → f i = true
  | n + 1, i, h, hi => by
    by_cases e : i = n
    · subst e; exact (band h).1
    · exact allN_ok (band h).2 (by omega)
def adrOf : List Addr → Nat → Addr
  | [], _ => 0
  | a :: _, 0 => a
  | _ :: r, n + 1 => adrOf r n
def wt (z : Str) (K : PySem.W.Frag) : Addr := match PySem.W.nsIn K (He.ga K "WORDS") z with
  | some (some (.ref a)) => a
  | _ => 0
section
variable {K : PySem.W.Frag} {C : Addr}
theorem fnd_ok {x : Str} {s : String} (h : fnd K C x s = true) : PySem.W.findIn K (.ref C) x = some (some (.builtin s)) := by
  unfold fnd at h
  split at h
  · rename_i t e
    rw [of_decide_eq_true h] at e
    exact e
  · cases h
theorem fndA_ok {x : Str} {a : Addr} (h : fndA K C x a = true) : PySem.W.findIn K (.ref C) x = some (some (.ref a)) := by
  unfold fndA at h
  split at h
  · rename_i b e
    rw [Nat.eq_of_beq_eq_true h] at e
    exact e
  · cases h
theorem non_ok {x : Str} (h : non K C x = true) : PySem.W.findIn K (.ref C) x = some none := by
  unfold non at h
  split at h
  · assumption
  · cases h
theorem bT_ok {o : Option Bool} (h : bT o = true) : o = some true := by
  unfold bT at h
  split at h
  · rfl
  · cases h
theorem kitX_ok {t u : Value} {b : Bool} (h : kitX K t u b = true) : PySem.W.kitOne K t u = some b := by
  unfold kitX at h
  split at h
  · rename_i c e
    rw [e]
    cases c <;> cases b <;> first | rfl | cases h
  · cases h
theorem spB_ok {v : Value} {x : Str} {s : String} (h : spB K v x s = true) : PySem.W.specialIn K v x = some (some (.builtin s)) := by
  unfold spB at h
  split at h
  · rename_i t e
    rw [of_decide_eq_true h] at e
    exact e
  · cases h
theorem tyB_ok {v : Value} {s : String} (h : tyB K v s = true) : PySem.W.typeIn K v = some (.type s) := by
  unfold tyB at h
  split at h
  · rename_i t e
    rw [of_decide_eq_true h] at e
    exact e
  · cases h
end
/-! ### an own error's class -/
def oexB (K : PySem.W.Frag) (C : Addr) : Bool := match K.lookup C with
  | some ⟨.type ty, _, .cls own, slots⟩ => decide (ty = "type") && (decide (own.mro.head? = some (.ref C)) && (PySem.HandSPX.refsVE own.mro.tail && (own.hasDict && (!own.hasDel && (match slots.toList with
    | [_, _, _, _, some (.builtin made), _] => decide (made = "ValueError.__new__")
    | _ => false)))))
  | _ => false
theorem oexB_ok {K : PySem.W.Frag} {C : Addr} (q : oexB K C = true) : ∃ nm q N bs bm sn sub ab col dd k0 k1 k2 k3 k5, K.lookup C = some (excClassObj nm q C N bs bm true sn sub ab col dd k0 k1 k2 k3 k5 "ValueError.__new__") ∧ PySem.HandSPX.refsVE bm = true := by
  unfold oexB at q
  split at q
  · rename_i ty dd own slots ho
    obtain ⟨q1, q⟩ := band q
    obtain ⟨q2, q⟩ := band q
    obtain ⟨q3, q⟩ := band q
    obtain ⟨q4, q⟩ := band q
    obtain ⟨q5, q6⟩ := band q
    have e1 := of_decide_eq_true q1
    have e2 := of_decide_eq_true q2
    subst e1
    split at q6
    · rename_i x0 x1 x2 x3 made x5 hs
      have e6 := of_decide_eq_true q6
      subst e6
      obtain ⟨cname, cbases, cmro, cns, cqual, cdict, cslots, csub, cabs, ccol, cdel⟩ := own
      have e3 : cmro = .ref C :: cmro.tail := by
        cases cmro with
        | nil => cases e2
        | cons a r =>
          have e4 : a = .ref C := Option.some.inj e2
          rw [e4]
          rfl
      have e4 : cdict = true := q4
      have e5 : cdel = false := by
        have q5 : (!cdel) = true := q5
        cases cdel with
        | false => rfl
        | true => cases q5
      have e7 : slots = #[x0, x1, x2, x3, some (.builtin "ValueError.__new__"), x5] := by
        cases slots with
        | mk l =>
          have e8 : l = _ := hs
          rw [e8]
      refine ⟨cname, cqual, cns, cbases, cmro.tail, cslots, csub, cabs, ccol, dd, x0, x1, x2, x3, x5, ?_, q3⟩
      rw [ho, e4, e5, e7]
      exact congrArg (fun m => some (Obj.mk (.type "type") dd (.cls ⟨cname, cbases, m, cns, cqual, true, cslots, csub, cabs, ccol, false⟩) #[x0, x1, x2, x3, some (.builtin "ValueError.__new__"), x5])) e3
    · cases q6
  · cases q
def oexA (K : PySem.W.Frag) (C : Addr) : Bool := oexB K C && (fnd K C "__setattr__" "object.__setattr__" && (bT (PySem.W.subIn K (.ref C) (.type "BaseException")) && (tyB K (.ref C) "type" && PySem.W.keepIn K (.ref C))))
theorem oexA_ok {K : PySem.W.Frag} {C : Addr} (q : oexA K C = true) : OexC K C := by
  obtain ⟨q1, q⟩ := band q
  obtain ⟨q2, q⟩ := band q
  obtain ⟨q3, q⟩ := band q
  obtain ⟨q4, q5⟩ := band q
  exact ⟨oexB_ok q1, fnd_ok q2, bT_ok q3, tyB_ok q4, q5⟩
/-- the class's __init__ -/
def iniB (K : PySem.W.Frag) (C : Addr) : Bool := fndA K C "__init__" (He.ma K C "__init__") && tyB K (.ref (He.ma K C "__init__")) "function"
def excA (K : PySem.W.Frag) (C : Addr) : Bool := fnd K C "__getattribute__" "BaseException.__getattribute__" && (non K C "__getattr__" && (bT (PySem.W.subIn K (.ref C) (.type "BaseException")) && (PySem.W.hasDictIn K C && (fnd K C "__class__" "object.__class__" && bT (PySem.W.mroIn K C (.type "object"))))))
def getB (K : PySem.W.Frag) : Bool := spB K (.builtin "object.__class__") "__get__" "getset_descriptor.__get__" && bT (PySem.W.takesIn K (.builtin "object.__class__"))
theorem excA_ok {K : PySem.W.Frag} {C : Addr} (q : excA K C = true) (g : getB K = true) : ExcC K C := by
  obtain ⟨q1, q⟩ := band q
  obtain ⟨q2, q⟩ := band q
  obtain ⟨q3, q⟩ := band q
  obtain ⟨q4, q⟩ := band q
  obtain ⟨q5, q6⟩ := band q
  obtain ⟨g1, g2⟩ := band g
  exact ⟨fnd_ok q1, non_ok q2, bT_ok q3, q4, fnd_ok q5, spB_ok g1, bT_ok g2, bT_ok q6⟩
def ownA (K : PySem.W.Frag) (C : Addr) : Bool := fnd K C "__class__" "object.__class__" && (bT (PySem.W.mroIn K C (.type "object")) && fnd K C "__ne__" "object.__ne__")
/-! ### a property, a classmethod -/
def prB (K : PySem.W.Frag) (C : Addr) (f : Str) : Bool := fndA K C f (He.ma K C f) && (spB K (.ref (He.ma K C f)) "__get__" "property.__get__" && (bT (PySem.W.takesIn K (.ref (He.ma K C f))) && (match PySem.W.recIn K (He.ma K C f) "property" with
  | some (.ref _ :: _) => true
  | _ => false)))
theorem prB_ok {K : PySem.W.Frag} {C : Addr} {f : Str} (h : prB K C f = true) : PropOf K C f (He.ma K C f) (He5.wf K C "property" f) := by
  obtain ⟨h1, h⟩ := band h
  obtain ⟨h2, h⟩ := band h
  obtain ⟨h3, h4⟩ := band h
  refine ⟨fndA_ok h1, spB_ok h2, bT_ok h3, ?_⟩
  unfold He5.wf
  split at h4
  · rename_i g r e
    exact ⟨r, by rw [e]⟩
  · cases h4
def rdB (K : PySem.W.Frag) (C : Addr) (m : Str) : Bool := PySem.W.readsIn K C (.type "type") && (spB K (.ref C) "__getattribute__" "type.__getattribute__" && (He5.wrapB K C "classmethod" "classmethod.__get__" m && PySem.W.fnIn K (He5.wf K C "classmethod" m)))
theorem rdB_ok {K : PySem.W.Frag} {C : Addr} {m : Str} (h : rdB K C m = true) : ClX.CRead K C (.type "type") ∧ ClX.CMet K C (.type "type") m (He.ma K C m) (He5.wf K C "classmethod" m) := by
  obtain ⟨h1, h⟩ := band h
  obtain ⟨h2, h⟩ := band h
  obtain ⟨h3, h4⟩ := band h
  exact ⟨⟨h1, spB_ok h2⟩, He5.cmet_of h3 h4⟩
/-! ### tuples -/
def tupA (K : PySem.W.Frag) (a : Addr) (vs : List V) : Bool := match K.lookup a with
  | some ⟨.type c, _, .seq its _, _⟩ => decide (c = "tuple") && (decide (its.size ≤ sizeLine) && He.relAll vs its.toList)
  | _ => false
theorem tupA_ok {K : PySem.W.Frag} {a : Addr} {vs : List V} (h : tupA K a vs = true) (H : Hp) : SqT K H a vs := by
  unfold tupA at h
  split at h
  · rename_i c od its n sl e
    obtain ⟨h1, h⟩ := band h
    obtain ⟨h2, h3⟩ := band h
    exact .inr ⟨_, its, n, e, congrArg Value.type (of_decide_eq_true h1), rfl, of_decide_eq_true h2, He.relAll_ok h3⟩
  · cases h
def adK (K : PySem.W.Frag) : Nat → Addr := adrOf [He.ga K "SkipError", He.ga K "BadUpkeep", He.ga K "BadText", He.ga K "Upkeep", He.ga K "RULES", He.ga K "WORDS", wt "begin" K, wt "grow" K, wt "touch" K, wt "stay" K, wt "leave" K, wt "drop" K, wt "merge" K, wt "split" K]
section
variable {K : PySem.W.Frag} {w : World}
def tupsB (K : PySem.W.Frag) : Bool := (tupA K (adK K 4) [.str "begin", .str "grow", .str "touch", .str "stay", .str "leave", .str "drop", .str "merge", .str "split"]) && ((tupA K (adK K 6) [.str "take", .str "stretch", .str "look"]) && ((tupA K (adK K 7) [.str "take", .str "stretch", .str "keep", .str "look"]) && ((tupA K (adK K 8) [.str "keep", .str "take", .str "bound", .str "look"]) && ((tupA K (adK K 9) [.str "keep", .str "bound", .str "look"]) && ((tupA K (adK K 10) [.str "keep", .str "bound", .str "look"]) && ((tupA K (adK K 11) [.str "keep", .str "bound", .str "look"]) && ((tupA K (adK K 12) [.str "take", .str "bound", .str "keep", .str "look"]) && (tupA K (adK K 13) [.str "keep", .str "bound", .str "look"]))))))))
theorem st_of (h : tupsB K = true) : STOk K (adK K) st := by
  obtain ⟨t4, h0⟩ := band h
  obtain ⟨t6, h1⟩ := band h0
  obtain ⟨t7, h2⟩ := band h1
  obtain ⟨t8, h3⟩ := band h2
  obtain ⟨t9, h4⟩ := band h3
  obtain ⟨t10, h5⟩ := band h4
  obtain ⟨t11, h6⟩ := band h5
  obtain ⟨t12, t13⟩ := band h6
  refine ⟨fun c xs e H ρ => ?_⟩
  unfold st at e
  split at e
  · cases e; exact ⟨[.str "begin", .str "grow", .str "touch", .str "stay", .str "leave", .str "drop", .str "merge", .str "split"], (.cons rfl (.cons rfl (.cons rfl (.cons rfl (.cons rfl (.cons rfl (.cons rfl (.cons rfl .nil)))))))), tupA_ok t4 H⟩
  · cases e; exact ⟨[.str "take", .str "stretch", .str "look"], (.cons rfl (.cons rfl (.cons rfl .nil))), tupA_ok t6 H⟩
  · cases e; exact ⟨[.str "take", .str "stretch", .str "keep", .str "look"], (.cons rfl (.cons rfl (.cons rfl (.cons rfl .nil)))), tupA_ok t7 H⟩
  · cases e; exact ⟨[.str "keep", .str "take", .str "bound", .str "look"], (.cons rfl (.cons rfl (.cons rfl (.cons rfl .nil)))), tupA_ok t8 H⟩
  · cases e; exact ⟨[.str "keep", .str "bound", .str "look"], (.cons rfl (.cons rfl (.cons rfl .nil))), tupA_ok t9 H⟩
  · cases e; exact ⟨[.str "keep", .str "bound", .str "look"], (.cons rfl (.cons rfl (.cons rfl .nil))), tupA_ok t10 H⟩
  · cases e; exact ⟨[.str "keep", .str "bound", .str "look"], (.cons rfl (.cons rfl (.cons rfl .nil))), tupA_ok t11 H⟩
  · cases e; exact ⟨[.str "take", .str "bound", .str "keep", .str "look"], (.cons rfl (.cons rfl (.cons rfl (.cons rfl .nil)))), tupA_ok t12 H⟩
  · cases e; exact ⟨[.str "keep", .str "bound", .str "look"], (.cons rfl (.cons rfl (.cons rfl .nil))), tupA_ok t13 H⟩
  · cases e
def wordsKV : List (Str × He.Dv) := [("begin", .adr (wt "begin")), ("grow", .adr (wt "grow")), ("touch", .adr (wt "touch")), ("stay", .adr (wt "stay")), ("leave", .adr (wt "leave")), ("drop", .adr (wt "drop")), ("merge", .adr (wt "merge")), ("split", .adr (wt "split"))]
def rulesL : List Str := ["begin", "grow", "touch", "stay", "leave", "drop", "merge", "split"]
theorem wd_of (h : He.dicW K (He.ga K "WORDS") = some (He.keysIn w.params rulesL)) (v : He.valsB K (He.ga K "WORDS") wordsKV = true) : WDOk K w (adK K) wd := by
  obtain ⟨es, n, k1, k2, k3⟩ := He.dicW_ok h
  have key : ∀ {z : Str} {d : He.Dv}, (z, d) ∈ wordsKV → KDct K w (adK K 5) z (d.v K) := fun {z d} hm => by
    obtain ⟨u, u1, u2⟩ := He.valsB_ok v hm
    exact ⟨es, n, u, k1, k2, u1, u2⟩
  refine ⟨fun c z x e => ?_⟩
  unfold wd at e
  split at e
  · rename_i hc
    have hc := Nat.eq_of_beq_eq_true hc
    subst hc
    split at e
    · rename_i hz; have hz := strEq_iff.mp hz; subst hz; cases e; exact ⟨.ref (wt "begin" K), key (d := .adr (wt "begin")) (List.Mem.head _), fun ρ => rfl⟩
    ·
      split at e
      · rename_i hz; have hz := strEq_iff.mp hz; subst hz; cases e; exact ⟨.ref (wt "grow" K), key (d := .adr (wt "grow")) (List.Mem.tail _ (List.Mem.head _)), fun ρ => rfl⟩
      ·
        split at e
        · rename_i hz; have hz := strEq_iff.mp hz; subst hz; cases e; exact ⟨.ref (wt "touch" K), key (d := .adr (wt "touch")) (List.Mem.tail _ (List.Mem.tail _ (List.Mem.head _))), fun ρ => rfl⟩
        ·
          split at e
          · rename_i hz; have hz := strEq_iff.mp hz; subst hz; cases e; exact ⟨.ref (wt "stay" K), key (d := .adr (wt "stay")) (List.Mem.tail _ (List.Mem.tail _ (List.Mem.tail _ (List.Mem.head _)))), fun ρ => rfl⟩
          ·
            split at e
            · rename_i hz; have hz := strEq_iff.mp hz; subst hz; cases e; exact ⟨.ref (wt "leave" K), key (d := .adr (wt "leave")) (List.Mem.tail _ (List.Mem.tail _ (List.Mem.tail _ (List.Mem.tail _ (List.Mem.head _))))), fun ρ => rfl⟩
            ·
              split at e
              · rename_i hz; have hz := strEq_iff.mp hz; subst hz; cases e; exact ⟨.ref (wt "drop" K), key (d := .adr (wt "drop")) (List.Mem.tail _ (List.Mem.tail _ (List.Mem.tail _ (List.Mem.tail _ (List.Mem.tail _ (List.Mem.head _)))))), fun ρ => rfl⟩
              ·
                split at e
                · rename_i hz; have hz := strEq_iff.mp hz; subst hz; cases e; exact ⟨.ref (wt "merge" K), key (d := .adr (wt "merge")) (List.Mem.tail _ (List.Mem.tail _ (List.Mem.tail _ (List.Mem.tail _ (List.Mem.tail _ (List.Mem.tail _ (List.Mem.head _))))))), fun ρ => rfl⟩
                ·
                  split at e
                  · rename_i hz; have hz := strEq_iff.mp hz; subst hz; cases e; exact ⟨.ref (wt "split" K), key (d := .adr (wt "split")) (List.Mem.tail _ (List.Mem.tail _ (List.Mem.tail _ (List.Mem.tail _ (List.Mem.tail _ (List.Mem.tail _ (List.Mem.tail _ (List.Mem.head _)))))))), fun ρ => rfl⟩
                  ·
                    cases e
  · cases e
end
/-! ### all of it -/
def kitB (K : PySem.W.Frag) : Bool := allN (fun t => allN (fun u => match isT t u with
  | some b => kitX K (tyU (adK K) t) (tyU (adK K) u) b
  | none => true) 14) 14
def nfB (K : PySem.W.Frag) : Bool := allN (fun t => !nfT 3 t || PySem.W.notFirst K (He.ga K "Upkeep") (tyU (adK K) t)) 14
def kxB (K : PySem.W.Frag) : Bool := (kitX K (.ref (He.ga K "BadUpkeep")) (.ref (He.ga K "BadUpkeep")) true && kitX K (.ref (He.ga K "BadUpkeep")) (.ref (He.ga K "BadText")) false) && (kitX K (.ref (He.ga K "BadText")) (.ref (He.ga K "BadUpkeep")) false && kitX K (.ref (He.ga K "BadText")) (.ref (He.ga K "BadText")) true)
def lkB (K : PySem.W.Frag) : Bool := non K (He.ga K "BadUpkeep") "part" && (non K (He.ga K "BadText") "line" && non K (He.ga K "BadText") "word")
def errB (K : PySem.W.Frag) : Bool := (oexA K (He.ga K "BadUpkeep") && (iniB K (He.ga K "BadUpkeep") && excA K (He.ga K "BadUpkeep"))) && (oexA K (He.ga K "BadText") && (iniB K (He.ga K "BadText") && excA K (He.ga K "BadText")))
def upB (K : PySem.W.Frag) : Bool := ownA K (He.ga K "Upkeep") && (prB K (He.ga K "Upkeep") "rules" && rdB K (He.ga K "Upkeep") "read")
def pB : He.Defn := ("_law_bent_right", none)
def pT : He.Defn := ("_law_text_right", none)
def tfs : List He.Defn := [pB, pT]
def neB (K : PySem.W.Frag) : Bool := !Nat.beq (He.cT K pB).2 (He.cT K pT).2
def exK (K : PySem.W.Frag) : Bool := (getB K) && ((kitB K) && ((nfB K) && ((kxB K) && ((lkB K) && ((errB K) && ((upB K) && ((tupsB K) && ((He.valsB K (He.ga K "WORDS") wordsKV) && (neB K)))))))))
abbrev s_BadUpkeep_init : Stmt := inClass (top 3) 0
abbrev s_BadText_init : Stmt := inClass (top 4) 0
def D_law : He5.DefA := ⟨fun K => He.fAd K ("law", none), "law", "law", defArgs s_law, defBody s_law, defScope s_law, [], []⟩
def D_words_of : He5.DefA := ⟨fun K => He.fAd K ("words_of", none), "words_of", "words_of", defArgs s_words_of, defBody s_words_of, defScope s_words_of, [], []⟩
def D_word_at : He5.DefA := ⟨fun K => He.fAd K ("word_at", none), "word_at", "word_at", defArgs s_word_at, defBody s_word_at, defScope s_word_at, [], []⟩
def D_check_end : He5.DefA := ⟨fun K => He.fAd K ("check_end", none), "check_end", "check_end", defArgs s_check_end, defBody s_check_end, defScope s_check_end, [], []⟩
def D_is_word_of : He5.DefA := ⟨fun K => He.fAd K ("is_word_of", none), "is_word_of", "is_word_of", defArgs s_is_word_of, defBody s_is_word_of, defScope s_is_word_of, [], []⟩
def D_upkeep_parts : He5.DefA := ⟨fun K => He.fAd K ("upkeep_parts", none), "upkeep_parts", "upkeep_parts", defArgs s_upkeep_parts, defBody s_upkeep_parts, defScope s_upkeep_parts, [], []⟩
def D__law_pen : He5.DefA := ⟨fun K => He.fAd K ("_law_pen", none), "_law_pen", "_law_pen", defArgs s__law_pen, defBody s__law_pen, defScope s__law_pen, [], []⟩
def D__law_draw : He5.DefA := ⟨fun K => He.fAd K ("_law_draw", none), "_law_draw", "_law_draw", defArgs s__law_draw, defBody s__law_draw, defScope s__law_draw, [], []⟩
def D__law_pick : He5.DefA := ⟨fun K => He.fAd K ("_law_pick", none), "_law_pick", "_law_pick", defArgs s__law_pick, defBody s__law_pick, defScope s__law_pick, [], []⟩
def D__law_heard : He5.DefA := ⟨fun K => He.fAd K ("_law_heard", none), "_law_heard", "_law_heard", defArgs s__law_heard, defBody s__law_heard, defScope s__law_heard, [], []⟩
def D__law_rules : He5.DefA := ⟨fun K => He.fAd K ("_law_rules", none), "_law_rules", "_law_rules", defArgs s__law_rules, defBody s__law_rules, defScope s__law_rules, [], []⟩
def D__law_words : He5.DefA := ⟨fun K => He.fAd K ("_law_words", none), "_law_words", "_law_words", defArgs s__law_words, defBody s__law_words, defScope s__law_words, [], []⟩
def D__law_book : He5.DefA := ⟨fun K => He.fAd K ("_law_book", none), "_law_book", "_law_book", defArgs s__law_book, defBody s__law_book, defScope s__law_book, [], []⟩
def D__law_is : He5.DefA := ⟨fun K => He.fAd K ("_law_is", none), "_law_is", "_law_is", defArgs s__law_is, defBody s__law_is, defScope s__law_is, [], []⟩
def D__law_bent_right : He5.DefA := ⟨fun K => He.fAd K ("_law_bent_right", none), "_law_bent_right", "_law_bent_right", defArgs s__law_bent_right, defBody s__law_bent_right, defScope s__law_bent_right, [], []⟩
def D__law_text_right : He5.DefA := ⟨fun K => He.fAd K ("_law_text_right", none), "_law_text_right", "_law_text_right", defArgs s__law_text_right, defBody s__law_text_right, defScope s__law_text_right, [], []⟩
def D_Upkeep_init : He5.DefA := ⟨fun K => He.fAd K ("Upkeep", some "__init__"), "__init__", "Upkeep.__init__", defArgs s_Upkeep_init, defBody s_Upkeep_init, defScope s_Upkeep_init, [], [("begin", .str "take"), ("grow", .str "take"), ("touch", .str "keep"), ("stay", .str "keep"), ("leave", .str "bound"), ("drop", .str "keep"), ("merge", .str "take"), ("split", .str "bound")]⟩
def D_Upkeep_rules : He5.DefA := ⟨fun K => He5.wf K (He.ga K "Upkeep") "property" "rules", "rules", "Upkeep.rules", defArgs s_Upkeep_rules, defBody s_Upkeep_rules, defScope s_Upkeep_rules, [], []⟩
def D_Upkeep_eq : He5.DefA := ⟨fun K => He.fAd K ("Upkeep", some "__eq__"), "__eq__", "Upkeep.__eq__", defArgs s_Upkeep_eq, defBody s_Upkeep_eq, defScope s_Upkeep_eq, [], []⟩
def D_Upkeep_str : He5.DefA := ⟨fun K => He.fAd K ("Upkeep", some "__str__"), "__str__", "Upkeep.__str__", defArgs s_Upkeep_str, defBody s_Upkeep_str, defScope s_Upkeep_str, [], []⟩
def D_Upkeep_read : He5.DefA := ⟨fun K => He5.wf K (He.ga K "Upkeep") "classmethod" "read", "read", "Upkeep.read", defArgs s_Upkeep_read, defBody s_Upkeep_read, defScope s_Upkeep_read, [], []⟩
def D_BadUpkeep_init : He5.DefA := ⟨fun K => He.fAd K ("BadUpkeep", some "__init__"), "__init__", "BadUpkeep.__init__", defArgs s_BadUpkeep_init, defBody s_BadUpkeep_init, defScope s_BadUpkeep_init, [], []⟩
def D_BadText_init : He5.DefA := ⟨fun K => He.fAd K ("BadText", some "__init__"), "__init__", "BadText.__init__", defArgs s_BadText_init, defBody s_BadText_init, defScope s_BadText_init, [], []⟩
def fn : List He5.DefA := [D_law, D_words_of, D_word_at, D_check_end, D_is_word_of, D_upkeep_parts, D__law_pen, D__law_draw, D__law_pick, D__law_heard, D__law_rules, D__law_words, D__law_book, D__law_is, D__law_bent_right, D__law_text_right, D_Upkeep_init, D_Upkeep_rules, D_Upkeep_eq, D_Upkeep_str, D_Upkeep_read, D_BadUpkeep_init, D_BadText_init]
def fa : List He.Fa := [.glo "SkipError", .glo "BadUpkeep", .glo "BadText", .glo "Upkeep", .glo "RULES", .glo "WORDS", .glo "law", .glo "words_of", .glo "word_at", .glo "check_end", .glo "is_word_of", .glo "upkeep_parts", .glo "_law_pen", .glo "_law_draw", .glo "_law_pick", .glo "_law_heard", .glo "_law_rules", .glo "_law_words", .glo "_law_book", .glo "_law_is", .glo "_law_bent_right", .glo "_law_text_right", .free "len", .free "range", .free "isinstance", .free "list", .free "int", .free "abs", .free "tuple", .free "str", .free "dict", .free "zip", .cls "Upkeep", .noat "Upkeep" "told_rules", .mkr "Upkeep", .meth "Upkeep" "__eq__", .meth "Upkeep" "__str__", .exm "BadUpkeep" "SkipError" true, .exm "BadText" "SkipError" true]
section
variable {P : Program} {w : World} {K : PySem.W.Frag} {mg : Str → Option Value} {base : Heap}
theorem sc_BadUpkeep_init : FnScope ["self", "part"] ["self", "part"] (defScope s_BadUpkeep_init) := ⟨rfl, rfl, rfl, by decide +kernel, rfl, by decide +kernel, by decide +kernel⟩
theorem errX_BadUpkeep {fI : Addr} {fd : FuncData} (T : OexC K (adK K 1)) (i : PySem.W.findIn K (.ref (adK K 1)) "__init__" = some (some (.ref fI))) (t : PySem.W.typeIn K (.ref fI) = some (.type "function")) (nf : ∀ f ∈ (["part"] : List Str), PySem.W.findIn K (.ref (adK K 1)) f = some none)
    (F : L2.Fun K "__init__" "BadUpkeep.__init__" s_BadUpkeep_init fI fd) : ErrX P w K mg base (adK K) 1 fI fd ["self", "part"] ["part"] := by
  refine ⟨T, i, t, ?_, F.binds fun _ _ _ _ _ _ us hl => match us, hl with | [_, _], _ => rfl, nf⟩
  obtain ⟨oc, od, kV, doc, pm, an, cdv, ct, osl, rfl, lk, hcd⟩ := F.ex
  exact fn_of (k := 0) lk hcd sc_BadUpkeep_init (fun vs H Q E h => spKeep_len h) fun A outer s H vs Q E hr h => ⟨_, (pss_one (ps_ost (pv 0) (pv 1))), keep_body1 h rfl⟩
theorem sc_BadText_init : FnScope ["self", "line", "word"] ["self", "line", "word"] (defScope s_BadText_init) := ⟨rfl, rfl, rfl, by decide +kernel, rfl, by decide +kernel, by decide +kernel⟩
theorem errX_BadText {fI : Addr} {fd : FuncData} (T : OexC K (adK K 2)) (i : PySem.W.findIn K (.ref (adK K 2)) "__init__" = some (some (.ref fI))) (t : PySem.W.typeIn K (.ref fI) = some (.type "function")) (nf : ∀ f ∈ (["line", "word"] : List Str), PySem.W.findIn K (.ref (adK K 2)) f = some none)
    (F : L2.Fun K "__init__" "BadText.__init__" s_BadText_init fI fd) : ErrX P w K mg base (adK K) 2 fI fd ["self", "line", "word"] ["line", "word"] := by
  refine ⟨T, i, t, ?_, F.binds fun _ _ _ _ _ _ us hl => match us, hl with | [_, _, _], _ => rfl, nf⟩
  obtain ⟨oc, od, kV, doc, pm, an, cdv, ct, osl, rfl, lk, hcd⟩ := F.ex
  exact fn_of (k := 0) lk hcd sc_BadText_init (fun vs H Q E h => spKeep_len h) fun A outer s H vs Q E hr h => ⟨_, (pss_cons (ps_ost (pv 0) (pv 1)) (pss_one (ps_ost (pv 0) (pv 2)))), keep_body2 h rfl⟩
theorem fun_kbn {K : PySem.W.Frag} {x qual : Str} {st : Stmt} {f : Addr} {fd : FuncData} {ps ks : List Str} {n : Nat} {g : List Value → List Value → List Value} {gV : List V → List V → List V} (F : L2.Fun K x qual st f fd)
    (h : ∀ (kV doc pm : Value) (an : Option Addr) (cdv ct : Value) (us ws : List Value), us.length = n → ws.length = ks.length → bindArgs (PySem.W.fnOf x qual (defArgs st) (defBody st) (defScope st) .none kV doc pm an cdv ct) ⟨us, ks.zip ws⟩ = pure (ps.zip (g us ws)))
    (hr : ∀ {vs : List V} {us : List Value} {zs : List V} {ws : List Value}, Vals vs us → Vals zs ws → Vals (gV vs zs) (g us ws)) : KBn K fd ps n ks g gV := by
  obtain ⟨oc, od, kV, doc, pm, an, cdv, ct, osl, rfl, lk, hcd⟩ := F.ex
  exact ⟨fun s us ws _ l1 l2 => .of_eq (h kV doc pm an cdv ct us ws l1 l2), hr⟩
theorem vals_app {a b : List V} {c d : List Value} (h : Vals a c) (g : Vals b d) : Vals (a ++ b) (c ++ d) := h.append g
theorem isI_eq {c : Nat} (h : isI c = true) : c = 3 := Nat.eq_of_beq_eq_true h
theorem isT_lt {t u : Nat} {b : Bool} (h : isT t u = some b) : t < 14 ∧ u < 14 := by
  unfold isT at h
  split at h
  · rename_i h1
    split at h
    · rename_i h2
      constructor
      · rcases Bool.or_eq_true_iff.mp h1 with q | q
        · have := Nat.le_of_ble_eq_true q; omega
        · have := Nat.eq_of_beq_eq_true q; omega
      · rcases Bool.or_eq_true_iff.mp h2 with q | q
        · have := Nat.eq_of_beq_eq_true q; omega
        · have := Nat.eq_of_beq_eq_true q; omega
    · cases h
  · cases h
theorem nfT_lt {c t : Nat} (h : nfT c t = true) : c = 3 ∧ t < 14 := by
  obtain ⟨h1, h2⟩ := band h
  refine ⟨Nat.eq_of_beq_eq_true h1, ?_⟩
  rcases Bool.or_eq_true_iff.mp h2 with q | q
  · rcases Bool.or_eq_true_iff.mp q with q | q
    · have := Nat.eq_of_beq_eq_true q; omega
    · have := Nat.eq_of_beq_eq_true q; omega
  · have := Nat.eq_of_beq_eq_true q; omega
theorem xt_of (C : Cls K (He.ga K "Upkeep")) (o : ownA K (He.ga K "Upkeep") = true) (g : getB K = true) (h : kitB K = true) : IsF K (adK K) isO isT where
  own c hc := by
    have hc : c = 3 := Nat.eq_of_beq_eq_true hc
    subst hc
    obtain ⟨o1, o⟩ := band o
    obtain ⟨o2, _⟩ := band o
    obtain ⟨g1, g2⟩ := band g
    exact ⟨C, fnd_ok o1, spB_ok g1, bT_ok g2, bT_ok o2⟩
  kit t u b e := by
    obtain ⟨ht, hu⟩ := isT_lt e
    unfold kitB at h
    have k1 := allN_ok h ht
    have k := allN_ok k1 hu
    rw [e] at k
    exact kitX_ok k
theorem xe_of {fE : Addr} (M : Meth K (He.ga K "Upkeep") "__eq__" fE) (o : ownA K (He.ga K "Upkeep") = true) (h : nfB K = true) : EqF K (adK K) fE isE nfT where
  eq c hc := by
    have hc : c = 3 := Nat.eq_of_beq_eq_true hc
    subst hc
    obtain ⟨o1, o⟩ := band o
    obtain ⟨o2, o3⟩ := band o
    exact ⟨M.at_, M.fn, fnd_ok o3, bT_ok o2⟩
  nf c t e := by
    obtain ⟨hc, ht⟩ := nfT_lt e
    subst hc
    unfold nfB at h
    have k := allN_ok h ht
    rw [e] at k
    exact k
theorem xk_of (e : errB K = true) (g : getB K = true) (kx : kxB K = true) (l : lkB K = true) : KpF K (adK K) isX isK lackK where
  cls c h := by
    obtain ⟨e1, e2⟩ := band e
    rcases Bool.or_eq_true_iff.mp h with q | q
    · have hc : c = 1 := Nat.eq_of_beq_eq_true q
      subst hc
      exact excA_ok (band (band e1).2).2 g
    · have hc : c = 2 := Nat.eq_of_beq_eq_true q
      subst hc
      exact excA_ok (band (band e2).2).2 g
  one c d b h := by
    obtain ⟨k1, k2⟩ := band kx
    obtain ⟨k3, k4⟩ := band k1
    obtain ⟨k5, k6⟩ := band k2
    unfold isK at h
    split at h
    · rename_i q
      obtain ⟨q1, q2⟩ := band q
      cases h
      rcases Bool.or_eq_true_iff.mp q1 with a | a <;> rcases Bool.or_eq_true_iff.mp q2 with b | b
      · have hc : c = 1 := Nat.eq_of_beq_eq_true a
        have hd : d = 1 := Nat.eq_of_beq_eq_true b
        subst hc hd
        exact kitX_ok k3
      · have hc : c = 1 := Nat.eq_of_beq_eq_true a
        have hd : d = 2 := Nat.eq_of_beq_eq_true b
        subst hc hd
        exact kitX_ok k4
      · have hc : c = 2 := Nat.eq_of_beq_eq_true a
        have hd : d = 1 := Nat.eq_of_beq_eq_true b
        subst hc hd
        exact kitX_ok k5
      · have hc : c = 2 := Nat.eq_of_beq_eq_true a
        have hd : d = 2 := Nat.eq_of_beq_eq_true b
        subst hc hd
        exact kitX_ok k6
    · cases h
  no c f h := by
    obtain ⟨l1, l2⟩ := band l
    obtain ⟨l3, l4⟩ := band l2
    rcases Bool.or_eq_true_iff.mp h with q | q
    · obtain ⟨q1, q2⟩ := band q
      have hc : c = 1 := Nat.eq_of_beq_eq_true q1
      have hf := strEq_iff.mp q2
      subst hc hf
      exact non_ok l1
    · obtain ⟨q1, q2⟩ := band q
      have hc : c = 2 := Nat.eq_of_beq_eq_true q1
      subst hc
      rcases Bool.or_eq_true_iff.mp q2 with q3 | q3
      · have hf := strEq_iff.mp q3
        subst hf
        exact non_ok l3
      · have hf := strEq_iff.mp q3
        subst hf
        exact non_ok l4
theorem xi_of (C : Cls K (He.ga K "Upkeep")) (n : NoAttr K (He.ga K "Upkeep") "told_rules") : InsF K (adK K) isI lacks where
  cls c h := by
    have hc : c = 3 := Nat.eq_of_beq_eq_true h
    subst hc
    exact C
  no c f h := by
    obtain ⟨h1, h2⟩ := band h
    have hc : c = 3 := Nat.eq_of_beq_eq_true h1
    have hf := strEq_iff.mp h2
    subst hc hf
    exact n
end
set_option maxHeartbeats 8000000 in
theorem law_at {l : PySem.W.OpenLaw} {w : World} {K : PySem.W.Frag} {h : Heap} {mg : Str → Option Value} {fL : Addr} (X : K.In h) (G : h.Ns mainGlobals mg) (hmg : mg "law" = some (.ref fL)) (c : He5.SaysA fa fn K) (e : exK K = true)
    (dw : He.dicW K (He.ga K "WORDS") = some (He.keysIn w.params rulesL)) (hd : ∀ p ∈ tfs, PySem.W.codeHdIn K (He.cT K p).1 (He.cT K p).2 = true) (out : ∀ p ∈ tfs, K.lookup (He.cT K p).2 = none)
    (empty : ∀ p ∈ tfs, h.get? (He.cT K p).2 = some { cls := .none, data := .fields #[] }) : LamX.LawAtS l w K (L2.CX l.prog w) 10 63 "_law_script" mg fL h := by
  unfold exK at e
  obtain ⟨e_get, e0⟩ := band e
  obtain ⟨e_kit, e1⟩ := band e0
  obtain ⟨e_nf, e2⟩ := band e1
  obtain ⟨e_kx, e3⟩ := band e2
  obtain ⟨e_lk, e4⟩ := band e3
  obtain ⟨e_err, e5⟩ := band e4
  obtain ⟨e_up, e6⟩ := band e5
  obtain ⟨e_tup, e7⟩ := band e6
  obtain ⟨e_val, e_ne⟩ := band e7
  have a0 := He.glo_ok X G (c.fact 0 (f := .glo "SkipError") rfl)
  have a1 := He.glo_ok X G (c.fact 1 (f := .glo "BadUpkeep") rfl)
  have a2 := He.glo_ok X G (c.fact 2 (f := .glo "BadText") rfl)
  have a3 := He.glo_ok X G (c.fact 3 (f := .glo "Upkeep") rfl)
  have a4 := He.glo_ok X G (c.fact 4 (f := .glo "RULES") rfl)
  have a5 := He.glo_ok X G (c.fact 5 (f := .glo "WORDS") rfl)
  have a6 := He.glo_ok X G (c.fact 6 (f := .glo "law") rfl)
  have a7 := He.glo_ok X G (c.fact 7 (f := .glo "words_of") rfl)
  have a8 := He.glo_ok X G (c.fact 8 (f := .glo "word_at") rfl)
  have a9 := He.glo_ok X G (c.fact 9 (f := .glo "check_end") rfl)
  have a10 := He.glo_ok X G (c.fact 10 (f := .glo "is_word_of") rfl)
  have a11 := He.glo_ok X G (c.fact 11 (f := .glo "upkeep_parts") rfl)
  have a12 := He.glo_ok X G (c.fact 12 (f := .glo "_law_pen") rfl)
  have a13 := He.glo_ok X G (c.fact 13 (f := .glo "_law_draw") rfl)
  have a14 := He.glo_ok X G (c.fact 14 (f := .glo "_law_pick") rfl)
  have a15 := He.glo_ok X G (c.fact 15 (f := .glo "_law_heard") rfl)
  have a16 := He.glo_ok X G (c.fact 16 (f := .glo "_law_rules") rfl)
  have a17 := He.glo_ok X G (c.fact 17 (f := .glo "_law_words") rfl)
  have a18 := He.glo_ok X G (c.fact 18 (f := .glo "_law_book") rfl)
  have a19 := He.glo_ok X G (c.fact 19 (f := .glo "_law_is") rfl)
  have a20 := He.glo_ok X G (c.fact 20 (f := .glo "_law_bent_right") rfl)
  have a21 := He.glo_ok X G (c.fact 21 (f := .glo "_law_text_right") rfl)
  have T : Txt K mg (adK K) := {
    m_SkipError := a0
    m_BadUpkeep := a1
    m_BadText := a2
    m_Upkeep := a3
    m_RULES := a4
    m_WORDS := a5
    z_len := He.free_ok X G (c.fact 22 (f := .free "len") rfl)
    z_range := He.free_ok X G (c.fact 23 (f := .free "range") rfl)
    z_isinstance := He.free_ok X G (c.fact 24 (f := .free "isinstance") rfl)
    z_list := He.free_ok X G (c.fact 25 (f := .free "list") rfl)
    z_int := He.free_ok X G (c.fact 26 (f := .free "int") rfl)
    z_abs := He.free_ok X G (c.fact 27 (f := .free "abs") rfl)
    z_tuple := He.free_ok X G (c.fact 28 (f := .free "tuple") rfl)
    z_str := He.free_ok X G (c.fact 29 (f := .free "str") rfl)
    z_dict := He.free_ok X G (c.fact 30 (f := .free "dict") rfl)
    z_zip := He.free_ok X G (c.fact 31 (f := .free "zip") rfl) }
  have CU := He.cls_ok (c.fact 32 (f := .cls "Upkeep") rfl)
  have NU := He.noat_ok (c.fact 33 (f := .noat "Upkeep" "told_rules") rfl)
  have MU := He.mkr_ok (c.fact 34 (f := .mkr "Upkeep") rfl)
  have ME := He.meth_ok (c.fact 35 (f := .meth "Upkeep" "__eq__") rfl)
  have MS := He.meth_ok (c.fact 36 (f := .meth "Upkeep" "__str__") rfl)
  have X1 := He.exm_ok (c.fact 37 (f := .exm "BadUpkeep" "SkipError" true) rfl)
  have X2 := He.exm_ok (c.fact 38 (f := .exm "BadText" "SkipError" true) rfl)
  obtain ⟨u_own, e_up⟩ := band e_up
  obtain ⟨u_pr, u_rd⟩ := band e_up
  obtain ⟨r_bu, r_bt⟩ := band e_err
  obtain ⟨bu1, bu⟩ := band r_bu
  obtain ⟨bu2, bu3⟩ := band bu
  obtain ⟨bt1, bt⟩ := band r_bt
  obtain ⟨bt2, bt3⟩ := band bt
  obtain ⟨bu4, bu5⟩ := band bu2
  obtain ⟨bt4, bt5⟩ := band bt2
  obtain ⟨l1, l2⟩ := band e_lk
  obtain ⟨l3, l4⟩ := band l2
  have XI := xi_of CU NU
  have XT := xt_of CU u_own e_get e_kit
  have XE := xe_of ME u_own e_nf
  have XK := xk_of (show errB K = true from e_err) e_get e_kx e_lk
  have XS := st_of e_tup
  have XW := wd_of dw e_val
  have XSt : ∀ c, isS3 c = true → StrC K (adK K c) (He.ma K (He.ga K "Upkeep") "__str__") := fun c hc => by
    have hc : c = 3 := Nat.eq_of_beq_eq_true hc
    subst hc
    exact ⟨MS.at_, MS.fn⟩
  have XH : ∀ c, isS c = true → PySem.W.exmOne K (.ref (adK K c)) (.ref (adK K 0)) = some true := fun c hc => by
    rcases Bool.or_eq_true_iff.mp hc with q | q
    · have hc : c = 1 := Nat.eq_of_beq_eq_true q
      subst hc
      exact X1
    · have hc : c = 2 := Nat.eq_of_beq_eq_true q
      subst hc
      exact X2
  have hne : (He.cT K pB).2 ≠ (He.cT K pT).2 := fun z => by
    unfold neB at e_ne
    rw [z, Nat.beq_refl] at e_ne
    cases e_ne
  obtain ⟨d_law, V_law⟩ := c.def_ 0 (d := D_law) rfl
  have F_law : L2.Fun K "law" "law" s_law ((D_law).at_ K) d_law := He5.fun_of V_law
  obtain ⟨d_words_of, V_words_of⟩ := c.def_ 1 (d := D_words_of) rfl
  have F_words_of : L2.Fun K "words_of" "words_of" s_words_of ((D_words_of).at_ K) d_words_of := He5.fun_of V_words_of
  obtain ⟨d_word_at, V_word_at⟩ := c.def_ 2 (d := D_word_at) rfl
  have F_word_at : L2.Fun K "word_at" "word_at" s_word_at ((D_word_at).at_ K) d_word_at := He5.fun_of V_word_at
  obtain ⟨d_check_end, V_check_end⟩ := c.def_ 3 (d := D_check_end) rfl
  have F_check_end : L2.Fun K "check_end" "check_end" s_check_end ((D_check_end).at_ K) d_check_end := He5.fun_of V_check_end
  obtain ⟨d_is_word_of, V_is_word_of⟩ := c.def_ 4 (d := D_is_word_of) rfl
  have F_is_word_of : L2.Fun K "is_word_of" "is_word_of" s_is_word_of ((D_is_word_of).at_ K) d_is_word_of := He5.fun_of V_is_word_of
  obtain ⟨d_upkeep_parts, V_upkeep_parts⟩ := c.def_ 5 (d := D_upkeep_parts) rfl
  have F_upkeep_parts : L2.Fun K "upkeep_parts" "upkeep_parts" s_upkeep_parts ((D_upkeep_parts).at_ K) d_upkeep_parts := He5.fun_of V_upkeep_parts
  obtain ⟨d__law_pen, V__law_pen⟩ := c.def_ 6 (d := D__law_pen) rfl
  have F__law_pen : L2.Fun K "_law_pen" "_law_pen" s__law_pen ((D__law_pen).at_ K) d__law_pen := He5.fun_of V__law_pen
  obtain ⟨d__law_draw, V__law_draw⟩ := c.def_ 7 (d := D__law_draw) rfl
  have F__law_draw : L2.Fun K "_law_draw" "_law_draw" s__law_draw ((D__law_draw).at_ K) d__law_draw := He5.fun_of V__law_draw
  obtain ⟨d__law_pick, V__law_pick⟩ := c.def_ 8 (d := D__law_pick) rfl
  have F__law_pick : L2.Fun K "_law_pick" "_law_pick" s__law_pick ((D__law_pick).at_ K) d__law_pick := He5.fun_of V__law_pick
  obtain ⟨d__law_heard, V__law_heard⟩ := c.def_ 9 (d := D__law_heard) rfl
  have F__law_heard : L2.Fun K "_law_heard" "_law_heard" s__law_heard ((D__law_heard).at_ K) d__law_heard := He5.fun_of V__law_heard
  obtain ⟨d__law_rules, V__law_rules⟩ := c.def_ 10 (d := D__law_rules) rfl
  have F__law_rules : L2.Fun K "_law_rules" "_law_rules" s__law_rules ((D__law_rules).at_ K) d__law_rules := He5.fun_of V__law_rules
  obtain ⟨d__law_words, V__law_words⟩ := c.def_ 11 (d := D__law_words) rfl
  have F__law_words : L2.Fun K "_law_words" "_law_words" s__law_words ((D__law_words).at_ K) d__law_words := He5.fun_of V__law_words
  obtain ⟨d__law_book, V__law_book⟩ := c.def_ 12 (d := D__law_book) rfl
  have F__law_book : L2.Fun K "_law_book" "_law_book" s__law_book ((D__law_book).at_ K) d__law_book := He5.fun_of V__law_book
  obtain ⟨d__law_is, V__law_is⟩ := c.def_ 13 (d := D__law_is) rfl
  have F__law_is : L2.Fun K "_law_is" "_law_is" s__law_is ((D__law_is).at_ K) d__law_is := He5.fun_of V__law_is
  obtain ⟨d__law_bent_right, V__law_bent_right⟩ := c.def_ 14 (d := D__law_bent_right) rfl
  have F__law_bent_right : L2.Fun K "_law_bent_right" "_law_bent_right" s__law_bent_right ((D__law_bent_right).at_ K) d__law_bent_right := He5.fun_of V__law_bent_right
  obtain ⟨d__law_text_right, V__law_text_right⟩ := c.def_ 15 (d := D__law_text_right) rfl
  have F__law_text_right : L2.Fun K "_law_text_right" "_law_text_right" s__law_text_right ((D__law_text_right).at_ K) d__law_text_right := He5.fun_of V__law_text_right
  obtain ⟨d_Upkeep_init, F_Upkeep_init⟩ := c.def_ 16 (d := D_Upkeep_init) rfl
  obtain ⟨d_Upkeep_rules, V_Upkeep_rules⟩ := c.def_ 17 (d := D_Upkeep_rules) rfl
  have F_Upkeep_rules : L2.Fun K "rules" "Upkeep.rules" s_Upkeep_rules ((D_Upkeep_rules).at_ K) d_Upkeep_rules := He5.fun_of V_Upkeep_rules
  obtain ⟨d_Upkeep_eq, V_Upkeep_eq⟩ := c.def_ 18 (d := D_Upkeep_eq) rfl
  have F_Upkeep_eq : L2.Fun K "__eq__" "Upkeep.__eq__" s_Upkeep_eq ((D_Upkeep_eq).at_ K) d_Upkeep_eq := He5.fun_of V_Upkeep_eq
  obtain ⟨d_Upkeep_str, V_Upkeep_str⟩ := c.def_ 19 (d := D_Upkeep_str) rfl
  have F_Upkeep_str : L2.Fun K "__str__" "Upkeep.__str__" s_Upkeep_str ((D_Upkeep_str).at_ K) d_Upkeep_str := He5.fun_of V_Upkeep_str
  obtain ⟨d_Upkeep_read, V_Upkeep_read⟩ := c.def_ 20 (d := D_Upkeep_read) rfl
  have F_Upkeep_read : L2.Fun K "read" "Upkeep.read" s_Upkeep_read ((D_Upkeep_read).at_ K) d_Upkeep_read := He5.fun_of V_Upkeep_read
  obtain ⟨d_BadUpkeep_init, V_BadUpkeep_init⟩ := c.def_ 21 (d := D_BadUpkeep_init) rfl
  have F_BadUpkeep_init : L2.Fun K "__init__" "BadUpkeep.__init__" s_BadUpkeep_init ((D_BadUpkeep_init).at_ K) d_BadUpkeep_init := He5.fun_of V_BadUpkeep_init
  obtain ⟨d_BadText_init, V_BadText_init⟩ := c.def_ 22 (d := D_BadText_init) rfl
  have F_BadText_init : L2.Fun K "__init__" "BadText.__init__" s_BadText_init ((D_BadText_init).at_ K) d_BadText_init := He5.fun_of V_BadText_init
  have B_words_of : DefB K mg "words_of" (He.ga K "words_of") d_words_of ["text"] := ⟨a7, F_words_of.kp, F_words_of.binds fun _ _ _ _ _ _ us hl => match us, hl with | [_], _ => rfl⟩
  have B_word_at : DefB K mg "word_at" (He.ga K "word_at") d_word_at ["words", "at"] := ⟨a8, F_word_at.kp, F_word_at.binds fun _ _ _ _ _ _ us hl => match us, hl with | [_, _], _ => rfl⟩
  have B_check_end : DefB K mg "check_end" (He.ga K "check_end") d_check_end ["words", "at"] := ⟨a9, F_check_end.kp, F_check_end.binds fun _ _ _ _ _ _ us hl => match us, hl with | [_, _], _ => rfl⟩
  have B_is_word_of : DefB K mg "is_word_of" (He.ga K "is_word_of") d_is_word_of ["rule", "word"] := ⟨a10, F_is_word_of.kp, F_is_word_of.binds fun _ _ _ _ _ _ us hl => match us, hl with | [_, _], _ => rfl⟩
  have B_upkeep_parts : DefB K mg "upkeep_parts" (He.ga K "upkeep_parts") d_upkeep_parts ["words", "at"] := ⟨a11, F_upkeep_parts.kp, F_upkeep_parts.binds fun _ _ _ _ _ _ us hl => match us, hl with | [_, _], _ => rfl⟩
  have B__law_pen : DefB K mg "_law_pen" (He.ga K "_law_pen") d__law_pen ["_law_script"] := ⟨a12, F__law_pen.kp, F__law_pen.binds fun _ _ _ _ _ _ us hl => match us, hl with | [_], _ => rfl⟩
  have B__law_draw : DefB K mg "_law_draw" (He.ga K "_law_draw") d__law_draw ["_law_pen_here", "_law_many"] := ⟨a13, F__law_draw.kp, F__law_draw.binds fun _ _ _ _ _ _ us hl => match us, hl with | [_, _], _ => rfl⟩
  have B__law_pick : DefB K mg "_law_pick" (He.ga K "_law_pick") d__law_pick ["_law_pen_here", "_law_some"] := ⟨a14, F__law_pick.kp, F__law_pick.binds fun _ _ _ _ _ _ us hl => match us, hl with | [_, _], _ => rfl⟩
  have B__law_heard : DefB K mg "_law_heard" (He.ga K "_law_heard") d__law_heard ["_law_ask"] := ⟨a15, F__law_heard.kp, F__law_heard.binds fun _ _ _ _ _ _ us hl => match us, hl with | [_], _ => rfl⟩
  have B__law_rules : DefB K mg "_law_rules" (He.ga K "_law_rules") d__law_rules [] := ⟨a16, F__law_rules.kp, F__law_rules.binds fun _ _ _ _ _ _ us hl => match us, hl with | [], _ => rfl⟩
  have B__law_words : DefB K mg "_law_words" (He.ga K "_law_words") d__law_words ["_law_rule"] := ⟨a17, F__law_words.kp, F__law_words.binds fun _ _ _ _ _ _ us hl => match us, hl with | [_], _ => rfl⟩
  have B__law_book : DefB K mg "_law_book" (He.ga K "_law_book") d__law_book ["_law_row"] := ⟨a18, F__law_book.kp, F__law_book.binds fun _ _ _ _ _ _ us hl => match us, hl with | [_], _ => rfl⟩
  have B__law_is : DefB K mg "_law_is" (He.ga K "_law_is") d__law_is ["_law_book_here", "_law_row"] := ⟨a19, F__law_is.kp, F__law_is.binds fun _ _ _ _ _ _ us hl => match us, hl with | [_, _], _ => rfl⟩
  have B__law_bent_right : DefB K mg "_law_bent_right" (He.ga K "_law_bent_right") d__law_bent_right ["_law_pen_here", "_law_row"] := ⟨a20, F__law_bent_right.kp, F__law_bent_right.binds fun _ _ _ _ _ _ us hl => match us, hl with | [_, _], _ => rfl⟩
  have B__law_text_right : DefB K mg "_law_text_right" (He.ga K "_law_text_right") d__law_text_right ["_law_pen_here", "_law_row"] := ⟨a21, F__law_text_right.kp, F__law_text_right.binds fun _ _ _ _ _ _ us hl => match us, hl with | [_, _], _ => rfl⟩
  have b_Upkeep_rules : Binds K d_Upkeep_rules ["self"] [] := F_Upkeep_rules.binds fun _ _ _ _ _ _ us hl => match us, hl with | [_], _ => rfl
  have b_Upkeep_eq : Binds K d_Upkeep_eq ["self", "other"] [] := F_Upkeep_eq.binds fun _ _ _ _ _ _ us hl => match us, hl with | [_, _], _ => rfl
  have b_Upkeep_str : Binds K d_Upkeep_str ["self"] [] := F_Upkeep_str.binds fun _ _ _ _ _ _ us hl => match us, hl with | [_], _ => rfl
  have b_Upkeep_read : Binds K d_Upkeep_read ["cls", "text"] [] := F_Upkeep_read.binds fun _ _ _ _ _ _ us hl => match us, hl with | [_, _], _ => rfl
  obtain ⟨ccB, FCB, ecB⟩ : ∃ cc, FunC K "_law_bent_right" "_law_bent_right" s__law_bent_right (He.ga K "_law_bent_right") d__law_bent_right cc ∧ (He.cT K pB).1 = cc := by
    obtain ⟨oc, od, kV, doc, pm, an, cdv, ct, osl, q1, lk, hcd⟩ := F__law_bent_right.ex
    obtain ⟨cc, rfl⟩ := He.codeIn_ref hcd
    exact ⟨cc, ⟨⟨oc, od, kV, doc, pm, an, ct, osl, q1, lk, hcd⟩, F__law_bent_right.kp⟩, He.codeOf_eq (p := pB) lk (by rw [q1])⟩
  obtain ⟨ccT, FCT, ecT⟩ : ∃ cc, FunC K "_law_text_right" "_law_text_right" s__law_text_right (He.ga K "_law_text_right") d__law_text_right cc ∧ (He.cT K pT).1 = cc := by
    obtain ⟨oc, od, kV, doc, pm, an, cdv, ct, osl, q1, lk, hcd⟩ := F__law_text_right.ex
    obtain ⟨cc, rfl⟩ := He.codeIn_ref hcd
    exact ⟨cc, ⟨⟨oc, od, kV, doc, pm, an, ct, osl, q1, lk, hcd⟩, F__law_text_right.kp⟩, He.codeOf_eq (p := pT) lk (by rw [q1])⟩
  obtain ⟨oc, od, kV, doc, pm, an, cdv, ct, osl, q1, lk, hcd⟩ := F_law.ex
  have eL : fL = (D_law).at_ K := by
    have z1 := hmg.symm.trans a6
    cases z1
    rfl
  rw [eL]
  refine ⟨d_law, tfs.map (He.cT K), spLaw K [((He.cT K pB).2, qB), ((He.cT K pT).2, qT)], ?_, ?_, ?_, ?_, ?_, ?_⟩
  · intro p hp
    obtain ⟨r, hr, rfl⟩ := List.mem_map.mp hp
    exact empty r hr
  · intro p hp
    obtain ⟨r, hr, rfl⟩ := List.mem_map.mp hp
    exact out r hr
  · intro p hp
    obtain ⟨r, hr, rfl⟩ := List.mem_map.mp hp
    exact PySem.W.codeHd_of_K X (hd r hr)
  · intro s v
    rw [q1]
    exact .of_eq rfl
  · intro H a ns hl _ hT hS
    refine ⟨a, ns, rfl, hS, hl, fun p hp => ?_, fun _ => rfl⟩
    simp only [List.mem_cons, List.not_mem_nil, or_false] at hp
    rcases hp with rfl | rfl
    · exact LamX.TabS.nil (hT (He.cT K pB) (List.mem_map.mpr ⟨pB, List.Mem.head _, rfl⟩))
    · exact LamX.TabS.nil (hT (He.cT K pT) (List.mem_map.mpr ⟨pT, List.Mem.tail _ (List.Mem.head _), rfl⟩))
  · intro base hb hn hT
    have TBb := hT (He.cT K pB) (List.mem_map.mpr ⟨pB, List.Mem.head _, rfl⟩)
    have TBt := hT (He.cT K pT) (List.mem_map.mpr ⟨pT, List.Mem.tail _ (List.Mem.head _), rfl⟩)
    rw [ecB] at TBb
    rw [ecT] at TBt
    have XX_BadUpkeep := errX_BadUpkeep (P := l.prog) (w := w) (mg := mg) (base := base) (oexA_ok bu1) (fndA_ok bu4) (tyB_ok bu5) (fun f hf => by
      simp only [List.mem_cons, List.not_mem_nil, or_false] at hf
      subst hf
      exact non_ok l1) F_BadUpkeep_init
    have XX_BadText := errX_BadText (P := l.prog) (w := w) (mg := mg) (base := base) (oexA_ok bt1) (fndA_ok bt4) (tyB_ok bt5) (fun f hf => by
      simp only [List.mem_cons, List.not_mem_nil, or_false] at hf
      rcases hf with rfl | rfl
      · exact non_ok l3
      · exact non_ok l4) F_BadText_init
    have G_words_of := ok_words_of (P := l.prog) (w := w) (mg := mg) (base := base) (adr := adK K) (tb := [((He.cT K pB).2, qB), ((He.cT K pT).2, qT)]) T XT XX_BadText F_words_of
    have G_word_at := ok_word_at (P := l.prog) (w := w) (mg := mg) (base := base) (adr := adK K) (tb := [((He.cT K pB).2, qB), ((He.cT K pT).2, qT)]) T XX_BadText F_word_at
    have G_check_end := ok_check_end (P := l.prog) (w := w) (mg := mg) (base := base) (adr := adK K) (tb := [((He.cT K pB).2, qB), ((He.cT K pT).2, qT)]) T XX_BadText F_check_end
    have G_is_word_of := ok_is_word_of (P := l.prog) (w := w) (mg := mg) (base := base) (adr := adK K) (tb := [((He.cT K pB).2, qB), ((He.cT K pT).2, qT)]) T XT XS XW F_is_word_of
    have G_upkeep_parts := ok_upkeep_parts (P := l.prog) (w := w) (mg := mg) (base := base) (adr := adK K) (tb := [((He.cT K pB).2, qB), ((He.cT K pT).2, qT)]) T XS XX_BadText G_word_at B_word_at G_is_word_of B_is_word_of F_upkeep_parts
    have G_Upkeep_init := ok_Upkeep_init (P := l.prog) (w := w) (mg := mg) (base := base) (adr := adK K) (tb := [((He.cT K pB).2, qB), ((He.cT K pT).2, qT)]) T XI XS XX_BadUpkeep G_is_word_of B_is_word_of F_Upkeep_init
    have XU : UpK l.prog w K mg base (adK K) [((He.cT K pB).2, qB), ((He.cT K pT).2, qT)] 3 _ _ := { M := MU, F := G_Upkeep_init, pm_all := kb_all F_Upkeep_init, pm_leave := kb_leave F_Upkeep_init, pm_merge := kb_merge F_Upkeep_init, pm_none := kb_none F_Upkeep_init, pm_star := kb_star F_Upkeep_init, pm_stay := kb_stay F_Upkeep_init }
    have G_Upkeep_rules := ok_Upkeep_rules (P := l.prog) (w := w) (mg := mg) (base := base) (adr := adK K) (tb := [((He.cT K pB).2, qB), ((He.cT K pT).2, qT)]) T XI XS F_Upkeep_rules
    have G_Upkeep_eq := ok_Upkeep_eq (P := l.prog) (w := w) (mg := mg) (base := base) (adr := adK K) (tb := [((He.cT K pB).2, qB), ((He.cT K pT).2, qT)]) T XI XT F_Upkeep_eq
    have G_Upkeep_str := ok_Upkeep_str (P := l.prog) (w := w) (mg := mg) (base := base) (adr := adK K) (tb := [((He.cT K pB).2, qB), ((He.cT K pT).2, qT)]) T XI XS F_Upkeep_str
    have XP : UpP l.prog w K mg base (adK K) [((He.cT K pB).2, qB), ((He.cT K pT).2, qT)] 1 _ _ _ := ⟨CU, prB_ok u_pr, G_Upkeep_rules, b_Upkeep_rules⟩
    have XO : UpO l.prog w K mg base (adK K) [((He.cT K pB).2, qB), ((He.cT K pT).2, qT)] _ _ _ _ := ⟨G_Upkeep_eq, b_Upkeep_eq, G_Upkeep_str, b_Upkeep_str⟩
    have G_Upkeep_read := ok_Upkeep_read (P := l.prog) (w := w) (mg := mg) (base := base) (adr := adK K) (tb := [((He.cT K pB).2, qB), ((He.cT K pT).2, qT)]) T XU G_words_of B_words_of G_check_end B_check_end G_upkeep_parts B_upkeep_parts F_Upkeep_read
    have XR : UpR l.prog w K mg base (adK K) [((He.cT K pB).2, qB), ((He.cT K pT).2, qT)] 5 _ _ _ := ⟨(rdB_ok u_rd).1, (rdB_ok u_rd).2, G_Upkeep_read, b_Upkeep_read, _, fun_kbn F_Upkeep_read (fun _ _ _ _ _ _ us ws l1 l2 => match us, ws, l1, l2 with | [_], [_], _, _ => rfl) vals_app⟩
    have G__law_pen := (ok_law_pen (P := l.prog) (w := w) (base := base) T F__law_pen)
    have G__law_draw0 := ok_law_draw (P := l.prog) (w := w) (base := base) T F__law_draw
    have G__law_pick := FnOk.ofCX0 (CX := L2.CX l.prog w) (ok_law_pick (P := l.prog) (w := w) (base := base) (tb := [((He.cT K pB).2, qB), ((He.cT K pT).2, qT)]) T F__law_pick G__law_draw0 B__law_draw)
    have G__law_draw := FnOk.ofCX0 (CX := L2.CX l.prog w) G__law_draw0
    have G__law_pen := FnOk.ofCX0 (CX := L2.CX l.prog w) G__law_pen
    have G__law_rules := ok__law_rules (P := l.prog) (w := w) (mg := mg) (base := base) (adr := adK K) (tb := [((He.cT K pB).2, qB), ((He.cT K pT).2, qT)]) T F__law_rules
    have G__law_words := ok__law_words (P := l.prog) (w := w) (mg := mg) (base := base) (adr := adK K) (tb := [((He.cT K pB).2, qB), ((He.cT K pT).2, qT)]) T F__law_words
    have G__law_book := ok__law_book (P := l.prog) (w := w) (mg := mg) (base := base) (adr := adK K) (tb := [((He.cT K pB).2, qB), ((He.cT K pT).2, qT)]) T XU F__law_book
    have G__law_is := ok__law_is (P := l.prog) (w := w) (mg := mg) (base := base) (adr := adK K) (tb := [((He.cT K pB).2, qB), ((He.cT K pT).2, qT)]) T XT XE XSt XO XP XR G__law_rules B__law_rules G__law_book B__law_book F__law_is
    have G__law_bent_right := ok__law_bent_right (P := l.prog) (w := w) (mg := mg) (base := base) (adr := adK K) T XT XK XE XO G__law_rules B__law_rules G__law_words B__law_words G__law_book B__law_book G__law_is B__law_is G__law_pick B__law_pick G__law_draw B__law_draw XH F__law_heard B__law_heard hne TBb FCB
    have G__law_text_right := ok__law_text_right (P := l.prog) (w := w) (mg := mg) (base := base) (adr := adK K) T XK XSt XO XU XR G__law_rules B__law_rules G__law_words B__law_words G__law_pick B__law_pick G__law_draw B__law_draw XH F__law_heard B__law_heard hne TBt FCT
    exact ok_law (P := l.prog) (w := w) (mg := mg) (base := base) (adr := adK K) T XT XE XSt XO XU XP G__law_rules B__law_rules G__law_words B__law_words G__law_book B__law_book G__law_is B__law_is G__law_bent_right B__law_bent_right G__law_text_right B__law_text_right G__law_pick B__law_pick G__law_pen B__law_pen F_law
end K8

set_option Elab.async false
set_option linter.all false
set_option maxRecDepth 100000
/-! K8V: the law over what k_head tells. -/
namespace K8
open PySem PySem.Spec PyProof.Rows L2 RX
def okH (K : PySem.W.Frag) (ts : List Addr) : Bool := tfs.all fun p => PySem.W.codeHdIn K (He.cT K p).1 (He.cT K p).2 && ((K.lookup (He.cT K p).2).isNone && ts.any (Nat.beq (He.cT K p).2))
theorem law_km {l : PySem.W.OpenLaw} {w : World} {K : PySem.W.Frag} {h : Heap} {mg : Str → Option Value} {fL : Addr} {ts : List Addr} (X : K.In h) (G : h.Ns mainGlobals mg) (hmg : mg "law" = some (.ref fL)) (Y : ∀ P ∈ ts, h.get? P = some { cls := .none, data := .fields #[] })
    (c : He5.obsA fa fn K = He5.valA fn) (e : exK K = true) (dw : He.dicW K (He.ga K "WORDS") = some (He.keysIn w.params rulesL)) (ok : okH K ts = true) : LamX.LawAtS l w K (L2.CX l.prog w) 10 63 "_law_script" mg fL h := by
  have key : ∀ p ∈ tfs, PySem.W.codeHdIn K (He.cT K p).1 (He.cT K p).2 = true ∧ K.lookup (He.cT K p).2 = none ∧ (He.cT K p).2 ∈ ts := fun p hp => by
    obtain ⟨h1, h2⟩ := band (List.all_eq_true.mp ok p hp)
    obtain ⟨h3, h4⟩ := band h2
    obtain ⟨P, hP, e⟩ := List.any_eq_true.mp h4
    exact ⟨h1, Option.isNone_iff_eq_none.mp h3, by rw [Nat.eq_of_beq_eq_true e]; exact hP⟩
  exact law_at X G hmg c e dw (fun p hp => (key p hp).1) (fun p hp => (key p hp).2.1) fun p hp => Y _ (key p hp).2.2
end K8

set_option Elab.async false
set_option maxRecDepth 100000
open PySem PySem.W PyProof.Rows in
set_option maxRecDepth 100000 in
set_option maxHeartbeats 0 in
theorem PySem.Challenge.cw_headskip_k83_rule_books_made_holds : PySem.Challenge.rw_headskip_k83_rule_books_made.Holds := by
  w_on; o_law; k_head; (case hw => w_witness2)
  k_fill
  refine LamX.walk_ofTs (l := PySem.Challenge.rw_headskip_k83_rule_books_made) (n := 63) (k := 10) (x := "_law_script") (CX := fun w => L2.CX (PySem.Challenge.rw_headskip_k83_rule_books_made).prog w) rfl (by decide) rfl ⟨rfl, by decide, by decide⟩ (fun w h Y => km_in_of Y) ?F ?X
  case X =>
    intro w H s e s' z
    obtain ⟨_, _, _, _, _, _, _, _, _, _, _, _, f⟩ := z
    exact f
  case F =>
    intro w mg fa h Y KX G hmg
    refine K8.law_km (l := PySem.Challenge.rw_headskip_k83_rule_books_made) (w := w) KX G hmg (km_tabs_of Y) ?c ?e ?dw ?ok
    case c => kernel_rfl
    case e => kernel_rfl
    case dw => kernel_rfl
    case ok => kernel_rfl
