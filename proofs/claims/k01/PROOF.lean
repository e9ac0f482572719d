import PyProof.Rows.All
import Wide.All
import OpenK.AllK
import Wide.FinOn
import HandS.ExcInit
import HandS.Exc
import HandS.ExcIs
import HandS.ExcValue
import HandS.Defaults
import HandS.MakeKw
import HandS.Words
import HandS.ForMost
import HandS.Flow
import HandS.Wide
import PySem.Challenge.RW_headskip_k01_errors_and_their_fields
set_option Elab.async false
set_option linter.all false
set_option maxRecDepth 100000
set_option maxHeartbeats 4000000
/-! ExK: a call of an own exception class with keywords. -/
namespace PySem.HandSPX
open PySem PySem.Spec PySem.Calls PyProof.Rows
section
variable {nm q : Str} {C N : Addr} {bs bm : List Value} {hdct : Bool} {sn : List Str} {sub : List Value} {ab : Bool} {col : Option Bool} {dd : Option Addr} {k0 k1 k2 k3 k5 : Option Value} {newId initId B : String} {bmB : List Value}
variable {prog : Program} {w : World} {A : Around} {E : Value → Shared → Prop} {R : Result → Shared → Prop} {h : Heap} {g : Array GenState} {d : Drawn} {t : Nat} {os : OsState}
theorem check_type_callK {M : Model} {rest : List Value} {kws : List (Str × Value)} {Q : Unit → Shared → Prop} (hC : h.get? C = some (excClassObj nm q C N bs bm hdct sn sub ab col dd k0 k1 k2 k3 k5 newId))
    (hq : Q () ⟨h, g, d, t, os⟩) : wpAny M A (checkBuiltinCall "type.__call__" ⟨.ref C :: rest, kws⟩) Q E ⟨h, g, d, t, os⟩ := by
  have f3 := tc_sub
  have hT : (⟨h, g, d, t, os⟩ : Shared).TypeIs (.ref C) "type" := ⟨_, hC, rfl⟩
  simp only [checkBuiltinCall, tc_kind, tc_split]
  repeat (any_goals (first | assumption | with_reducible refine wpAny_loadPart_at hC ?_ | with_reducible refine wpAny_onRaise ?_ | with_reducible refine wpAny_map ?_ | wp_step))
theorem check_new_ownK (F : ExcBaseFacts B newId initId bmB) (hT : ∀ X : String, bm.contains (.type X) = bmB.contains (.type X)) {M : Model} {rest : List Value} {kws : List (Str × Value)} {Q : Unit → Shared → Prop}
    (hC : h.get? C = some (excClassObj nm q C N bs bm hdct sn sub ab col dd k0 k1 k2 k3 k5 newId)) (hq : Q () ⟨h, g, d, t, os⟩) : wpAny M A (checkBuiltinCall newId ⟨.ref C :: rest, kws⟩) Q E ⟨h, g, d, t, os⟩ := by
  have hcont : (Value.ref C :: bm).contains (.type B) = true := by rw [List.contains_cons, hT, F.hasB, Bool.or_true]
  have hstar := F.noStar
  simp only [checkBuiltinCall, F.newKind, F.newSplit, F.newRow]
  repeat (first | refine wpAny_loadPart_at hC ?_ | (refine wpAny_isSubtype_exc hC ?_; rw [hcont]) | refine wpAny_staticBase_exc hC ?_ | refine wpAny_madeBy_exc hC ?_ | simp only [bne_self_eq_false, Bool.false_eq_true, if_false] | wp_step)
  exact hq
theorem new_ownK (F : ExcBaseFacts B newId initId bmB) (hT : ∀ X : String, bm.contains (.type X) = bmB.contains (.type X)) {rest : List Value} {kws : List (Str × Value)}
    (hC : h.get? C = some (excClassObj nm q C N bs bm hdct sn sub ab col dd k0 k1 k2 k3 k5 newId))
    (hq : R (.ok (.ret (.ref (h.objs.size + 1)))) ⟨(h.push { cls := .type "tuple", data := .seq rest.toArray }).push
      { cls := .ref C, data := .fields #[.ref h.objs.size, .none, .none, .none, .bool false, .none] }, g, d, t, os⟩) (hrest : rest.length ≤ sizeLine) :
    codeAny (model prog w) A (.builtin newId ⟨.ref C :: rest, kws⟩) R ⟨h, g, d, t, os⟩ := by
  have hends := F.ends
  have hcB : (Value.ref C :: bm).contains (.type B) = true := by rw [List.contains_cons, hT, F.hasB, Bool.or_true]
  have hcA : (Value.ref C :: bm).contains (.type "AttributeError") = false := by rw [List.contains_cons, hT, F.noAttr]; rfl
  have hcN : (Value.ref C :: bm).contains (.type "NameError") = false := by rw [List.contains_cons, hT, F.noName]; rfl
  refine codeAny_builtinAt F.entry ?_
  unfold Builtin.«BaseException.__new__»
  refine wpAt_bind ?_
  show wpAt _ _ _ (stack >>= _) _ _ _
  refine wpAt_bind (wpAt_stack fun p below => wpAt_of_wpAny ?_)
  wp_walk
  refine wpAt_of_wpAny ?_
  rw [F.owner]
  repeat (first | with_reducible refine wpAny_madeHere_exc F.canon hC ?_ | with_reducible refine wpAny_loadPart_at hC ?_ | (with_reducible refine wpAny_isSubtype_exc hC ?_; first | rw [hcB] | rw [hcA] | rw [hcN]) | wp_step)
  show R _ _
  rw [Heap.size_push]
  exact hq
theorem type_call_ownK (F : ExcBaseFacts B newId initId bmB) (hT : ∀ X : String, bm.contains (.type X) = bmB.contains (.type X)) {rest : List Value} {kws : List (Str × Value)} {fI : Addr} {Q : Fin → Shared → Prop}
    (hC : h.get? C = some (excClassObj nm q C N bs bm hdct sn sub ab col dd k0 k1 k2 k3 k5 newId))
    (hi : W.Looks (model prog w) h (typeLookup (.ref C) "__init__") (some (.ref fI))) (hb : ∀ self, W.Looks (model prog w) h (bindSpecial (.ref fI) self) (.ref fI, [self])) (hrest : rest.length ≤ sizeLine)
    (hq : codeAny (model prog w) A (.call (.ref fI) ⟨.ref (h.objs.size + 1) :: rest, kws⟩)
      (fun r s' => match r with | .ok (.ret v) => v = .none ∧ Q (.done (.ret (.ref (h.objs.size + 1)))) s' | .ok _ => False | .error e => E e s')
      ⟨(h.push (W.kdv_tup rest)).push (excO C h.objs.size), g, d, t, os⟩) :
    wpAny (model prog w) A (Builtin.«type.__call__» ⟨.ref C :: rest, kws⟩) Q E ⟨h, g, d, t, os⟩ := by
  repeat (first | with_reducible refine wpAny_loadPart_at hC ?_ | with_reducible refine wpAny_madeBy_exc hC ?_ | wp_step)
  refine codeAny_call_builtin_code (Code.quiet_builtin _ F.quiet) (check_new_ownK F hT hC ?_)
  refine new_ownK F hT hC ?_ hrest
  show wpAny _ _ _ _ _ _
  have k : ∀ b o, h.get? b = some o → ((h.push (W.kdv_tup rest)).push (excO C h.objs.size)).get? b = some o := fun b o e => Heap.get?_push_of_some _ (Heap.get?_push_of_some _ e)
  have hC₁ := k _ _ hC
  have hget : ((h.push (W.kdv_tup rest)).push (excO C h.objs.size)).get? (h.objs.size + 1) = some (excO C h.objs.size) := by heap_get
  have hcC : (Value.ref C :: bm).contains (.ref C) = true := by simp
  have i1 := hi.keeps k
  have b1 := (hb (.ref (h.objs.size + 1))).keeps k
  unfold isInstance
  repeat (first | with_reducible refine wpAny_loadPart_at hget ?_ | (with_reducible refine wpAny_isSubtype_exc hC₁ ?_; rw [hcC]) | wp_step)
  show wpAny _ _ (typeLookup (.ref C) _) _ _ _
  refine i1.at ?_
  refine wpAny_holding (wpAny_bind (b1.at ?_))
  refine wpAny_bind (wpAny_call (codeAny_mono hq fun r s' z => ?_))
  rcases r with e | (v | _ | _ | _) <;> first | exact z | exact z.elim | skip
  obtain ⟨rfl, z⟩ := z
  first
    | exact wpAny_pure (wpAny_pure z)
    | (wp_walk; exact z)
theorem call_ownK (F : ExcBaseFacts B newId initId bmB) (hT : ∀ X : String, bm.contains (.type X) = bmB.contains (.type X)) {rest : List Value} {kws : List (Str × Value)} {fI : Addr}
    (hC : h.get? C = some (excClassObj nm q C N bs bm hdct sn sub ab col dd k0 k1 k2 k3 k5 newId))
    (hi : W.Looks (model prog w) h (typeLookup (.ref C) "__init__") (some (.ref fI))) (hb : ∀ self, W.Looks (model prog w) h (bindSpecial (.ref fI) self) (.ref fI, [self])) (hrest : rest.length ≤ sizeLine)
    (hq : codeAny (model prog w) (A.under (.builtin "type.__call__" ⟨.ref C :: rest, kws⟩)) (.call (.ref fI) ⟨.ref (h.objs.size + 1) :: rest, kws⟩) (W.InitBack (h.objs.size + 1) R)
      ⟨(h.push (W.kdv_tup rest)).push (excO C h.objs.size), g, d, t, os⟩) :
    codeAny (model prog w) A (.call (.ref C) ⟨rest, kws⟩) R ⟨h, g, d, t, os⟩ := by
  have f1 := tc_lookup
  have f2 := tc_bind (.ref C)
  have hTy : (⟨h, g, d, t, os⟩ : Shared).TypeIs (.ref C) "type" := ⟨_, hC, rfl⟩
  refine codeAny_of_tree ?_
  show wpAny _ _ (callAny (.ref C) _) _ _ _
  repeat (any_goals (first | assumption | with_reducible refine wpAny_loadPart_at hC ?_ | wp_step))
  refine ⟨rfl, ?_⟩
  refine codeAny_call_builtin_at (Code.quiet_builtin _ (by decide +kernel)) entry_typeCall (check_type_callK hC (type_call_ownK F hT hC hi hb hrest ?_))
  refine codeAny_mono hq fun r s' z => ?_
  rcases r with e | (v | _ | _ | _) <;> exact z
end
end PySem.HandSPX

set_option Elab.async false
set_option linter.all false
set_option maxRecDepth 100000
set_option maxHeartbeats 4000000
/-! ExR: own exceptions as values over the layer: made, their fields read, isinstance. -/
namespace PySem.W
open PySem PySem.Spec PySem.Calls PyProof.Rows
section
variable {prog : Program} {w : World} {A : Around} {E : Value → Shared → Prop} {s : Shared} {K : Frag} {x D : Addr} {ox : Obj} {od : Option Obj}
theorem findObj_dataO {C : Addr} {name : Str} {a g : Value} (hc : (clsIn K C).isSome = true) (ha : findIn K (.ref C) name = some (some a)) (hg : specialIn K a "__get__" = some (some g)) (ht : takesIn K a = some true) : findObj K C od name = some (.bind g a) := by
  obtain ⟨cd, hc⟩ := Option.isSome_iff_exists.mp hc
  unfold findObj
  rw [hc, Option.bind_some, ha, Option.bind_some]
  simp [hg, ht]
theorem kin_classO {Q : Option Value → Shared → Prop} (hga : findIn K (.ref D) "__getattribute__" = some (some (.builtin "BaseException.__getattribute__"))) (hgt : findIn K (.ref D) "__getattr__" = some none) (hsub : subIn K (.ref D) (.type "BaseException") = some true)
    (hdct : hasDictIn K D = true) (ha : findIn K (.ref D) "__class__" = some (some (.builtin "object.__class__")))
    (hn : specialIn K (.builtin "object.__class__") "__get__" = some (some (.builtin "getset_descriptor.__get__"))) (htk : takesIn K (.builtin "object.__class__") = some true) (hm : mroIn K D (.type "object") = some true)
    (X : K.In s.heap) (I : InstAt s.heap x ox D od) (h : Q (some (.ref D)) { s with toks := s.toks + 1 }) : wpAny (model prog w) A (getAttr? (.ref x) "__class__") Q E s := by
  have hf : findObj K D od "__class__" = some (.bind (.builtin "getset_descriptor.__get__") (.builtin "object.__class__")) := findObj_dataO (by obtain ⟨cd, hc, _⟩ := any_some hdct; rw [hc]; rfl) ha hn htk
  obtain ⟨hp, g, d, t, os⟩ := s
  have L0 := I.type (M := model prog w)
  have L1 := looks_findIn (M := model prog w) X hga
  have L2 := looks_findIn (M := model prog w) X hgt
  have L3 := looks_find (M := model prog w) X I hf
  have sub : Looks (model prog w) hp (isInstance (.ref x) (.type "BaseException")) true := L0.andThen (looks_subIn X hsub)
  have hx0 : (false && onTheHeap (Value.builtin "BaseException.__getattribute__")) = false := rfl
  have hx2 : (Value.builtin "BaseException.__getattribute__" == Value.builtin "object.__getattribute__") = false := by decide +kernel
  have hx1 : (onTheHeap (Value.ref D) && Value.builtin "BaseException.__getattribute__" == Value.builtin "object.__getattribute__") = false := by rw [hx2]; rfl
  unfold getAttr? getAttrBy? getAttrBy
  refine wpAny_bind (wpAny_mkText (wpAny_bind (wpAny_attempt (wpAny_holding (wpAny_bind (L0.at (wpAny_bind (L1.at ?_))))))))
  show wpAny _ _ (if (onTheHeap (Value.ref D) && Value.builtin "BaseException.__getattribute__" == Value.builtin "object.__getattribute__") = true then _ else _) _ _ _
  rw [hx1, if_neg Bool.false_ne_true]
  unfold getAttrByItsOwn hookBefore
  refine wpAny_bind ?_
  rw [if_pos (show onTheHeap (Value.ref D) = true from rfl)]
  refine L2.at ?_
  refine wpAny_bind (wpAny_attempt (wpAny_holding ?_))
  unfold callGetattribute
  rw [hx0, if_neg Bool.false_ne_true]
  unfold boundAndCalled
  rw [PySem.F.excAttr_ValueError.ga.bind (.ref x)]
  refine wpAny_bind (wpAny_pure ?_)
  show wpAny _ _ (call (.builtin "BaseException.__getattribute__") [.ref x, .str "__class__" t]) _ _ _
  refine wpAny_call (codeAny_call_builtin PySem.F.excAttr_ValueError.ga.plain PySem.F.entry_bexc_ga ?_)
  refine @check_slot (model prog w) _ _ ⟨hp, g, d, t + 1, os⟩ "BaseException.__getattribute__" "BaseException" "__getattribute__" (.ref x) [.str "__class__" t] [] _ (by decide +kernel) (by decide +kernel) sub (PySem.F.args_bexc_ga (.ref x) (.str "__class__" t)) ?_
  unfold Builtin.«object.__getattribute__»
  refine wpAny_bind (wpAny_of_eq (a := ((Value.ref x : Value), [Value.str "__class__" t])) (by first | rfl | (simp only [slotArgs]; rfl)) ?_)
  refine wpAny_bind (wpAny_pure (wpAny_bind (L0.at (wpAny_bind (L3.at ?_)))))
  show wpAny _ _ (holding [Value.builtin "object.__class__"] (call (.builtin "getset_descriptor.__get__") [.builtin "object.__class__", .ref x, .ref D]) >>= ret) _ _ _
  refine wpAny_bind (wpAny_holding (wpAny_call (class_get (s := ⟨hp, g, d, t + 1, os⟩) (ox := ox) (od := od) X I hm ?_)))
  refine wpAny_pure ?_
  show wpAny _ _ (handedOut (.ref D)) _ _ _
  rw [handedOut_of (v := .ref D) rfl]
  first
    | exact wpAny_pure (wpAny_pure h)
    | exact wpAny_pure h
    | exact wpAny_pure (wpAny_bind (wpAny_pure (wpAny_pure h)))
theorem kitx_excO (hga : findIn K (.ref D) "__getattribute__" = some (some (.builtin "BaseException.__getattribute__"))) (hgt : findIn K (.ref D) "__getattr__" = some none) (hsub : subIn K (.ref D) (.type "BaseException") = some true) (hdct : hasDictIn K D = true) (ha : findIn K (.ref D) "__class__" = some (some (.builtin "object.__class__")))
    (hn : specialIn K (.builtin "object.__class__") "__get__" = some (some (.builtin "getset_descriptor.__get__"))) (htk : takesIn K (.builtin "object.__class__") = some true) (hm : mroIn K D (.type "object") = some true) :
    KitX K (.ref x) (.ref D) (fun h => InstAt h x ox D od) where
  ty := fun _ _ _ I => I.type
  it := fun _ _ X _ => by
    obtain ⟨cdD, hcD, _⟩ := any_some hdct
    unfold clsIn at hcD
    split at hcD
    · rename_i c' d' cd' sl' ho
      intro A' Q' E' s' k q
      unfold isType loadHead
      exact wpAny_bind (wpAny_loadPart (k _ _ (X _ _ ho)) (wpAny_pure q))
    · cases hcD
  ne := fun h tp dd its n sl X htp => by
    obtain ⟨cdD, hcD, _⟩ := any_some hdct
    refine Bool.eq_false_iff.mpr fun q => ?_
    have e : D = tp := Value.ref.inj (beq_iff_eq.mp q)
    subst e
    unfold clsIn at hcD
    split at hcD
    · rename_i c' d' cd' sl' ho
      have z := (X _ _ ho).symm.trans htp
      cases z
    · cases hcD
  ca := fun X I k => kin_classO hga hgt hsub hdct ha hn htk hm X I k
end
end PySem.W
namespace L2
open PySem PySem.Spec PyProof.Rows
/-- the instance as it stands -/
theorem exo_inst {P : Program} {w : World} {H : Hp} {h : Heap} {a D : Addr} {d : Option Addr} (hok : HOk P w H h) (ha : H a = some (exo a D d)) (hd : ∀ dx, d = some dx → ∃ fs, H dx = some (exd dx fs)) :
    ∃ (ox : Obj) (od : Option Obj), PySem.W.InstAt h a ox D od ∧ ∀ dx fs, d = some dx → H dx = some (exd dx fs) → ∃ (o : Obj) (mA : Str → Option Value), od = some o ∧ (∀ f, RelO (fs.lookup f) (mA f)) ∧ ∀ f, PySem.W.lookIn f o = some (mA f) := by
  obtain ⟨t1, e⟩ := exo_at hok ha
  cases d with
  | none => exact ⟨_, none, ⟨e, rfl, rfl, trivial⟩, fun dx fs z => nomatch z⟩
  | some dx =>
    obtain ⟨fs, ed⟩ := hd dx rfl
    obtain ⟨mA, hns, hr⟩ := exd_at hok ed
    obtain ⟨od, ho, hl⟩ := lookIn_ns hns
    refine ⟨_, some od, ⟨e, rfl, rfl, ho⟩, fun dx' fs' z1 z2 => ?_⟩
    cases z1
    obtain ⟨mB, hnsB, hrB⟩ := exd_at hok z2
    obtain ⟨od', ho', hl'⟩ := lookIn_ns hnsB
    rw [ho] at ho'; cases ho'
    exact ⟨od, mB, rfl, hrB, fun f => hl' f⟩
/-- isinstance(e, c), e an own exception as a value -/
def rIsX (K : PySem.W.Frag) : List V → Hp → VK → Prop := fun xs H Q => ∃ (a D : Addr) (d : Option Addr) (c : V) (cv : Value) (b : Bool), xs = [.ref a, c] ∧ H a = some (exo a D d) ∧ (∀ dx, d = some dx → ∃ fs, H dx = some (exd dx fs)) ∧ ExcC K D ∧
  (∀ u, RelV c u → u = cv) ∧ PySem.W.kitOne K (.ref D) cv = some b ∧ Q (.bl b) H
theorem call_isX {X : Cx} : CallR X (.builtin "isinstance") (rIsX X.K) := by
  intro pins s σ H xs us Q I r h
  obtain ⟨a, D, d, c, cv, b, rfl, ha, hd, C, hcv, e, q⟩ := h
  cases r with
  | cons rx rr =>
    cases rr with
    | cons rt rr =>
      cases rr
      cases rx
      have ec := hcv _ rt
      subst ec
      obtain ⟨ox, od, J, _⟩ := exo_inst I.hok ha hd
      exact PySem.W.kia_one (PySem.W.kitx_excO C.hg C.hk C.hs C.hd C.ha C.hn C.ht C.hm) I.kIn J e (fun z => nomatch z) fun tk => ⟨.bl b, H, I.kept (t' := tk) fun _ _ z => z, rfl, q⟩
/-- e.f, e an own exception as a value -/
def tExF (K : PySem.W.Frag) (f : Str) (te : TE) : TE := fun σ H Q => te σ H fun x H1 => ∃ (a D dx : Addr) (fs : List (Str × V)) (v : V), x = .ref a ∧ H1 a = some (exo a D (some dx)) ∧ H1 dx = some (exd dx fs) ∧ fs.lookup f = some v ∧
  ExcC K D ∧ PySem.W.findIn K (.ref D) f = some none ∧ Q v H1
theorem pe_exf {X : Cx} {e : Expr} {te : TE} {f : Str} {pos : Pos} (he : PE X e te) (hb : attributeBase e f X.env (eval e X.env) = eval e X.env := by rfl) : PE X (.Attribute e f pos) (tExF X.K f te) := by
  refine ⟨fun pins s σ H Q I h => ?_⟩
  refine attr_of hb (thn (he.run pins s σ H _ I h) fun u s1 hh => ?_)
  obtain ⟨x, H1, I1, rx, a, D, dx, fs, v, ex, ea, ed, l, C, nf, q⟩ := hh
  subst ex
  obtain rfl : u = Value.ref a := rx
  obtain ⟨ox, od, J, z⟩ := exo_inst I1.hok ea (fun dx' e' => by cases e'; exact ⟨fs, ed⟩)
  obtain ⟨o, mA, rfl, hr, hl⟩ := z dx fs rfl ed
  obtain ⟨u, hu, ru⟩ := RelO.some_of (v := v) (o := mA f) (by rw [← l]; exact hr f)
  exact PySem.HandSPX.exc_get I1.kIn J C.hg C.hk C.hs (PySem.W.findObj_own C.hd nf rfl (by rw [hl, hu])) (handed_of ru) ⟨v, H1, I1.tok _, ru, q⟩
/-- C(e, ..), an own exception class with its own __init__ keeping sp, as a value -/
def tExV (C : Addr) (sp : Sp) (dvs : List V) (ta : TA) : TE := fun σ H Q => ta σ H fun vs H1 => vs.length ≤ 1000 ∧ ∀ a, H1 a = none → sp (.ref a :: (vs ++ dvs)) (upd H1 a (exo a C none)) (fun v H2 => v = .non ∧ Q (.ref a) H2) E0
/-- with keywords alone -/
def tExK (C : Addr) (sp : Sp) (m : Nat) (gV : List V → List V → List V) (tk : TA) : TE := fun σ H Q => tk σ H fun zs H1 => zs.length = m ∧ ∀ a, H1 a = none → sp (gV [.ref a] zs) (upd H1 a (exo a C none)) (fun v H2 => v = .non ∧ Q (.ref a) H2) E0
section
variable {X : Cx} {CX : CXT} {x : Str} {C fI : Addr} {k : Nat} {fd : FuncData} {ps ks : List Str} {sp : Sp} {ds : List Value} {dvs : List V} {e : Expr} {es : List Expr} {ta tk : TA} {p pos : Pos} {kws : List Keyword} {g : List Value → List Value → List Value} {gV : List V → List V → List V}
theorem run_exv {pins : List (Addr × Obj)} {σ : L2.St} {H1 : Hp} {s1 : Shared} {Q : VK} {us : List Value} {kw : List (Str × Value)} {ws : List Value} {wv : List V} (T : OexC X.K C) (iC : PySem.W.findIn X.K (.ref C) "__init__" = some (some (.ref fI))) (tI : PySem.W.typeIn X.K (.ref fI) = some (.type "function"))
    (F1 : FnOk X.prog X.w X.K X.mg X.base CX k fI fd ps sp) (hr : Room (k + 1) X.A) (hx : Passes CX X E0) (I1 : Inv X pins σ H1 s1) (hus : us.length ≤ sizeLine)
    (hb : ∀ (a : Addr) (s : Shared), X.K.In s.heap → ∃ (as : List Value) (av : List V), BindsTo s fd ⟨.ref a :: us, kw⟩ (ps.zip as) ∧ Vals av as ∧ (H1 a = none → sp av (upd H1 a (exo a C none)) (fun v H2 => v = .non ∧ Q (.ref a) H2) E0)) :
    wpAny (model X.prog X.w) X.A (call (.ref C) us kw) (EP X pins σ Q) X.xe s1 := by
  obtain ⟨nm, q, N, bs, bm, sn, sub, ab, col, dd, k0, k1, k2, k3, k5, hC, hbm⟩ := T.cls
  obtain ⟨hp, g, dr, tk, os⟩ := s1
  have hsz : hp.objs.size ≤ hp.objs.size + 1 := Nat.le_succ _
  have hn : H1 (hp.objs.size + 1) = none := I1.hok.fresh hsz
  have kk : ∀ b o, hp.get? b = some o → ((hp.push (PySem.W.kdv_tup us)).push (PySem.HandSPX.excO C hp.objs.size)).get? b = some o := fun b o e => Heap.get?_push_of_some _ (Heap.get?_push_of_some _ e)
  have hget : ((hp.push (PySem.W.kdv_tup us)).push (PySem.HandSPX.excO C hp.objs.size)).get? (hp.objs.size + 1) = some (PySem.HandSPX.excO C hp.objs.size) := by heap_get
  have I2 : Inv X pins σ (upd H1 (hp.objs.size + 1) (exo (hp.objs.size + 1) C none)) ⟨(hp.push (PySem.W.kdv_tup us)).push (PySem.HandSPX.excO C hp.objs.size), g, dr, tk, os⟩ :=
    I1.laid (t' := tk) (a := hp.objs.size + 1) (o := exo (hp.objs.size + 1) C none) (h' := (hp.push (PySem.W.kdv_tup us)).push (PySem.HandSPX.excO C hp.objs.size)) kk hsz (exo_ok hget)
  obtain ⟨as, av, hbd, hv, hsp⟩ := hb (hp.objs.size + 1) _ I2.kIn
  have hq := hsp hn
  refine wpAny_call (PySem.HandSPX.call_ownK F.excBase_ValueError (fun Y => PySem.HandSPX.refsVE_contains Y bm hbm) (I1.kIn _ _ hC) (PySem.W.looks_findIn I1.kIn iC) (fun self => PySem.W.bind_fn I1.kIn self tI) hus
    (codeAny_mono (F1.run _ X.stack _ _ ⟨Value.ref (hp.objs.size + 1) :: us, kw⟩ as av _ E0 (hr.make C us kw) (I2.env0.make C us kw) hbd hv hq) fun r s' hq' => ?_))
  cases r with
  | error er => exact hx pins σ _ _ er s' I2 hq'
  | ok fl =>
    cases fl with
    | ret u =>
      obtain ⟨v, H', I3, rv, ev, q3⟩ := I2.after hq'
      subst ev
      exact ⟨rv, ⟨V.ref (hp.objs.size + 1), H', I3, rfl, q3⟩⟩
    | next => exact False.elim hq'
    | brk => exact False.elim hq'
    | cont => exact False.elim hq'
theorem pe_exv (T : OexC X.K C) (iC : PySem.W.findIn X.K (.ref C) "__init__" = some (some (.ref fI))) (tI : PySem.W.typeIn X.K (.ref fI) = some (.type "function")) (F1 : FnOk X.prog X.w X.K X.mg X.base CX k fI fd ps sp) (hr : Room (k + 1) X.A) (hb : Binds X.K fd ps ds) (hd : Vals dvs ds)
    (hx : Passes CX X E0) (hg : Gl X x) (hm : X.mg x = some (.ref C)) (ha : PA X (e :: es) ta) (hdb : (x == ("__debug__" : Str)) = false := by decide) (he : starEach (e :: es) X.env = (false, eval e X.env) :: starEach es X.env := by rfl)
    (hpl : (backTo pos (starEach es X.env)).any (·.1) = false := by rfl) : PE X (.Call (.Name x p) (e :: es) [] pos) (tExV C sp dvs ta) := by
  refine ⟨fun pins s σ H Q I h => ?_⟩
  refine wpAny_Call_Name_kw (ld_glob I hg hm ?_ hdb)
  refine PySem.W.callWith_K (h₀ := X.base) I.ok.mod.kin T.kC (thn (ha.run pos pins s σ H _ I h) fun us s1 ⟨vs, H1, I1, r1, hz, q1⟩ => ⟨I1.kIn, ?_⟩) he hpl
  show wpAny _ _ (call (.ref C) us) _ _ _
  refine run_exv (ws := []) (wv := []) T iC tI F1 hr hx I1 (by rw [← Paired.length r1, sizeLine_eq]; omega) fun a s hk => ?_
  have r2 : Vals (V.ref a :: (vs ++ dvs)) (Value.ref a :: (us ++ ds)) := .cons rfl (r1.append hd)
  by_cases hn : H1 a = none
  · refine ⟨Value.ref a :: (us ++ ds), _, hb s (Value.ref a :: us) hk ?_, r2, fun h => q1 a h⟩
    have e := r2.length
    rw [F1.len _ _ _ _ (q1 a hn)] at e
    exact e.symm
  · obtain ⟨b, hbn⟩ : ∃ b, H1 b = none := ⟨s1.heap.objs.size, I1.hok.fresh (Nat.le_refl _)⟩
    have r3 : Vals (V.ref b :: (vs ++ dvs)) (Value.ref b :: (us ++ ds)) := .cons rfl (r1.append hd)
    refine ⟨Value.ref a :: (us ++ ds), _, hb s (Value.ref a :: us) hk ?_, r2, fun h => absurd h hn⟩
    have e := r3.length
    rw [F1.len _ _ _ _ (q1 b hbn)] at e
    exact e.symm
theorem pe_exk (T : OexC X.K C) (iC : PySem.W.findIn X.K (.ref C) "__init__" = some (some (.ref fI))) (tI : PySem.W.typeIn X.K (.ref fI) = some (.type "function")) (F1 : FnOk X.prog X.w X.K X.mg X.base CX k fI fd ps sp) (hr : Room (k + 1) X.A) (hb : KBn X.K fd ps 1 ks g gV)
    (hx : Passes CX X E0) (hg : Gl X x) (hm : X.mg x = some (.ref C)) (hkw : PK X kws tk) (hall : (backToKw pos (keywordEach kws X.env)).all (·.1.isSome) = true := by rfl) (hks : (backToKw pos (keywordEach kws X.env)).filterMap (·.1) = ks := by rfl) (hdb : (x == ("__debug__" : Str)) = false := by decide)
    (hpl : ((backTo pos (starEach [] X.env)).any (·.1) || (backToKw pos (keywordEach kws X.env)).any (·.1.isNone)) = false := by rfl) : PE X (.Call (.Name x p) [] kws pos) (tExK C sp ks.length gV tk) := by
  refine ⟨fun pins s σ H Q I h => ?_⟩
  refine wpAny_Call_Name_kw (ld_glob I hg hm ?_ hdb)
  refine PySem.W.callWith_KW0 (h₀ := X.base) I.ok.mod.kin T.kC hall ?_ hpl
  refine thn (hkw.run pos pins s σ H _ I h) fun ws s2 ⟨zs, H2, I2, rz, l1, q2⟩ => ⟨I2.kIn, ?_⟩
  rw [hks]
  show wpAny _ _ (call (.ref C) [] (ks.zip ws)) _ _ _
  refine run_exv (ws := []) (wv := []) T iC tI F1 hr hx I2 (by show 0 ≤ sizeLine; omega) fun a s hk => ?_
  exact ⟨g [Value.ref a] ws, gV [V.ref a] zs, hb.to s [Value.ref a] ws hk rfl (rz.length.symm.trans l1), hb.rel (.cons rfl .nil) rz, fun h => q2 a h⟩
/-- C(), C(e), an own exception class without an __init__, as a value -/
def tEx0 (C : Addr) (ta : TA) : TE := fun σ H Q => ta σ H fun _ H1 => ∀ a, H1 a = none → Q (.ref a) (upd H1 a (exo a C none))
theorem run_ex0 {bmB : List Value} {B newId initId : String} {pins : List (Addr × Obj)} {σ : L2.St} {H1 : Hp} {s1 : Shared} {Q : VK} {us : List Value} (F : ExcBaseFacts B newId initId bmB) (q : PySem.W.excIn X.K C bmB newId = true) (I1 : Inv X pins σ H1 s1) (hl : us.length ≤ sizeLine)
    (q1 : ∀ a, H1 a = none → Q (.ref a) (upd H1 a (exo a C none))) : wpAny (model X.prog X.w) X.A (call (.ref C) us) (EP X pins σ Q) X.xe s1 := by
  obtain ⟨bm, N, nm, qn, bs, hdct, sn, sub, ab, col, dd, k0, k1, k2, k3, k5, mN, hC, hN, hni, T⟩ := exc_obj I1.kIn q
  refine wpAny_call_exc_subT F T hC hN hni (fun h' a hm => ?_) hl
  have hn : H1 a = none := I1.hok.gone hm.new
  obtain ⟨t, ht, _, _⟩ := hm.there
  exact ⟨.ref a, upd H1 a (exo a C none), I1.laidN hm.keeps hm.new hn (exo_ok ht), rfl, q1 a hn⟩
theorem pe_ex1 {bmB : List Value} {B newId initId : String} {te : TE} (F : ExcBaseFacts B newId initId bmB) (q : PySem.W.excIn X.K C bmB newId = true) (gC : X.mg x = some (.ref C)) (kC : PySem.W.keepIn X.K (.ref C) = true) (hg : Gl X x)
    (ha : PA X [e] ta) (hdb : (x == ("__debug__" : Str)) = false := by decide) (he : starEach [e] X.env = (false, eval e X.env) :: starEach [] X.env := by rfl) (hl : ∀ σ H Q, ta σ H Q → ta σ H fun vs H1 => vs.length ≤ 1000 ∧ Q vs H1) :
    PE X (.Call (.Name x p) [e] [] pos) (tEx0 C ta) := by
  refine ⟨fun pins s σ H Q I h => ?_⟩
  refine wpAny_Call_Name_kw (ld_glob I hg gC ?_ hdb)
  refine PySem.W.callWith_K (h₀ := X.base) I.ok.mod.kin kC (thn (ha.run pos pins s σ H _ I (hl _ _ _ h)) fun us s1 ⟨vs, H1, I1, r1, hz, q1⟩ => ⟨I1.kIn, ?_⟩) he (by rfl)
  exact run_ex0 (us := us) F q I1 (by rw [← Paired.length r1, sizeLine_eq]; omega) q1
theorem pe_ex0 {bmB : List Value} {B newId initId : String} (F : ExcBaseFacts B newId initId bmB) (q : PySem.W.excIn X.K C bmB newId = true) (gC : X.mg x = some (.ref C)) (kC : PySem.W.keepIn X.K (.ref C) = true) (hg : Gl X x)
    (hdb : (x == ("__debug__" : Str)) = false := by decide) : PE X (.Call (.Name x p) [] [] pos) (tEx0 C tNil) := by
  refine ⟨fun pins s σ H Q I h => ?_⟩
  refine wpAny_Call_Name_kw (ld_glob I hg gC ?_ hdb)
  exact PySem.W.callWith_K0 I.kIn kC (run_ex0 (us := []) F q I (by show 0 ≤ sizeLine; omega) h)
end
end L2

set_option Elab.async false
set_option linter.all false
set_option maxRecDepth 100000
set_option maxHeartbeats 4000000
/-! FnG: what a def promises, called where no repr is under way (the guards are told). -/
namespace L2
open PySem PySem.Spec PyProof.Rows
structure RoomG (k : Nat) (A : Around) : Prop extends Room k A where
  gd : A.guards = some []
theorem RoomG.mono {j k : Nat} {A : Around} (r : RoomG k A) (h : j ≤ k) : RoomG j A := ⟨r.toRoom.mono h, r.gd⟩
theorem RoomG.deeper {k : Nat} {A : Around} (r : RoomG (k + 1) A) (env : Env) : RoomG k (A.deeper env) := ⟨r.toRoom.deeper env, r.gd⟩
theorem RoomG.make {k : Nat} {A : Around} (r : RoomG (k + 1) A) (C : Addr) (us : List Value) (kw : List (Str × Value)) : RoomG k (A.under (.builtin "type.__call__" ⟨.ref C :: us, kw⟩)) :=
  ⟨r.toRoom.make C us kw, by
    show pushGuards (Code.guards (.builtin "type.__call__" ⟨.ref C :: us, kw⟩)) A.guards = some []
    rw [r.gd]
    rfl⟩
structure FnOkG (P : Program) (w : World) (K : PySem.W.Frag) (mg : Str → Option Value) (base : Heap) (CX : CXT) (k : Nat) (f : Addr) (fd : FuncData) (ps : List Str) (sp : Sp) : Prop where
  len : ∀ vs H Q E, sp vs H Q E → vs.length = ps.length
  run : ∀ (A : Around) (outer : List Env) (s : Shared) (H : Hp) (args : Args) (us : List Value) (vs : List V) (Q : VK) (E : XK), RoomG k A → Env0 P w K mg base A outer s H → BindsTo s fd args (ps.zip us) → Vals vs us → sp vs H Q E →
    codeAny (model P w) A (.call (.ref f) args) (CR CX outer P w H s Q E) s
theorem FnOkG.mono {P : Program} {w : World} {K : PySem.W.Frag} {mg : Str → Option Value} {base : Heap} {CX : CXT} {j k : Nat} {f : Addr} {fd : FuncData} {ps : List Str} {sp : Sp} (F : FnOkG P w K mg base CX j f fd ps sp) (h : j ≤ k) :
    FnOkG P w K mg base CX k f fd ps sp := ⟨F.len, fun A outer s H args us vs Q E hr => F.run A outer s H args us vs Q E (hr.mono h)⟩
theorem FnOkG.imp {P : Program} {w : World} {K : PySem.W.Frag} {mg : Str → Option Value} {base : Heap} {CX : CXT} {k : Nat} {f : Addr} {fd : FuncData} {ps : List Str} {sp sp' : Sp} (F : FnOkG P w K mg base CX k f fd ps sp)
    (h : ∀ vs H Q E, sp' vs H Q E → sp vs H Q E) : FnOkG P w K mg base CX k f fd ps sp' :=
  ⟨fun vs H Q E q => F.len vs H Q E (h _ _ _ _ q), fun A outer s H args us vs Q E hr he hb hv hs => F.run A outer s H args us vs Q E hr he hb hv (h _ _ _ _ hs)⟩
theorem FnOk.g {P : Program} {w : World} {K : PySem.W.Frag} {mg : Str → Option Value} {base : Heap} {CX : CXT} {k : Nat} {f : Addr} {fd : FuncData} {ps : List Str} {sp : Sp} (F : FnOk P w K mg base CX k f fd ps sp) : FnOkG P w K mg base CX k f fd ps sp :=
  ⟨F.len, fun A outer s H args us vs Q E hr => F.run A outer s H args us vs Q E hr.toRoom⟩
theorem fn_ofG {CX : CXT} {P : Program} {w : World} {K : PySem.W.Frag} {mg : Str → Option Value} {base : Heap} {k : Nat} {f : Addr} {name qual : Str} {params : Arguments} {body : List Stmt} {scope : Scope} {dV kV doc pm cdv ct oc : Value} {an od : Option Addr}
    {osl : Array (Option Value)} {N ps : List Str} {sp : Sp} (lk : K.lookup f = some ⟨oc, od, .func (PySem.W.fnOf name qual params body scope dV kV doc pm an cdv ct), osl⟩) (hcd : PySem.W.codeIn K cdv qual = true) (S : FnScope N ps scope)
    (len : ∀ vs H Q E, sp vs H Q E → vs.length = ps.length)
    (hbody : ∀ (A : Around) (outer : List Env) (s : Shared) (H : Hp) (vs : List V) (Q : VK) (E : XK), RoomG k (A.deeper (envOfC qual scope s.heap.objs.size f cdv)) → sp vs H Q E →
      ∃ t, PSs (cxOf CX P w K mg base N qual scope f cdv A outer s H E) body t ∧ t { nx := fun _ H' => Q .non H', rt := Q } (start N vs) H) :
    FnOkG P w K mg base CX (k + 1) f (PySem.W.fnOf name qual params body scope dV kV doc pm an cdv ct) ps sp := by
  refine ⟨len, fun A outer s H args us vs Q E hr e0 hb r hsp => ?_⟩
  have hl := len _ _ _ _ hsp
  have KX : K.In s.heap := e0.mod.kin.keeps fun b o e => (e0.bs b o e).1
  have lim : s.heap.NoLimit := e0.mod.nolimit.keeps fun b o e => (e0.bs b o e).1
  have hkind : ∀ y ∈ ps.zip us, scope.names.lookup y.1 = some .local ∨ (scope.names.lookup y.1 = some .cell ∧ ((cellsFrom (s.heap.objs.size + 1) scope.names []).lookup y.1).isSome = true) := fun ⟨n, v⟩ hy => by
    rcases S.par n (List.of_mem_zip hy).1 with q | q
    · exact .inl q
    · exact .inr ⟨q, PySem.W.cellsFrom_some _ _ _ (.inl q)⟩
  refine codeAny_call_function hr.depth (KX _ _ lk) rfl S.co S.gen rfl (PySem.W.codeRec_of KX hcd) (hb _ _ _ _ ?_)
  refine wpAny_newFunctionEnv_cells S.kind hkind fun env he s1 x => ?_
  subst he
  refine ⟨lim.keeps x.toInCall.keep, codeAny_func ?_⟩
  obtain ⟨t, ht, hq⟩ := hbody A outer s H vs Q E (hr.deeper _) hsp
  have I : Inv (cxOf CX P w K mg base N qual scope f cdv A outer s H E) [] (start N vs) H s1 := inv_start S hr.hd e0 hl r x
  refine wpAny_mono (ht.run [] s1 (start N vs) H _ I hq) (fun fl s' hs => ?_) fun e s' hs => hs
  have fin : ∀ {σ' : L2.St} {H' : Hp} {v : V} {u : Value}, Inv (cxOf CX P w K mg base N qual scope f cdv A outer s H E) [] σ' H' s' → RelV v u → Q v H' → CE outer P w H s Q u s' :=
    fun {σ' H' v u} J rv q => ⟨v, H', J.os, J.bare, J.base, J.hok, rv, q⟩
  cases fl with
  | ret u =>
    obtain ⟨v, σ', H', J, rv, q⟩ := hs
    exact fin J rv q
  | next =>
    obtain ⟨σ', H', J, q⟩ := hs
    exact fin (v := V.non) (u := Value.none) J rfl q
  | brk =>
    obtain ⟨_, _, _, q⟩ := hs
    exact False.elim q
  | cont =>
    obtain ⟨_, _, _, q⟩ := hs
    exact False.elim q
section
variable {P : Program} {w : World} {K : PySem.W.Frag} {mg : Str → Option Value} {base : Heap}
theorem Fun.okG {CX : CXT} {x qual : Str} {st : Stmt} {f : Addr} {fd : FuncData} {N ps : List Str} {k : Nat} {sp : Sp} (F : Fun K x qual st f fd) (S : FnScope N ps (defScope st)) (len : ∀ vs H Q E, sp vs H Q E → vs.length = ps.length)
    (hbody : ∀ (cdv : Value) (A : Around) (outer : List Env) (s : Shared) (H : Hp) (vs : List V) (Q : VK) (E : XK), RoomG k (A.deeper (envOfC qual (defScope st) s.heap.objs.size f cdv)) → sp vs H Q E →
      ∃ t, PSs (cxOf CX P w K mg base N qual (defScope st) f cdv A outer s H E) (defBody st) t ∧ t { nx := fun _ H' => Q .non H', rt := Q } (start N vs) H) : FnOkG P w K mg base CX (k + 1) f fd ps sp := by
  obtain ⟨oc, od, kV, doc, pm, an, cdv, ct, osl, rfl, lk, hcd⟩ := F.ex
  exact fn_ofG lk hcd S len fun A outer s H vs Q E hr hsp => hbody cdv A outer s H vs Q E hr hsp
end
section
variable {X : Cx} {CX : CXT} {k : Nat} {f C : Addr} {fd : FuncData} {ps : List Str} {sp : Sp} {dvs : List V} {ds : List Value} {E : XK} {x m : Str} {p pos apos : Pos} {e o : Expr} {es : List Expr} {ta : TE} {t : TA}
theorem run_fnG {pins : List (Addr × Obj)} {σ : L2.St} {H : Hp} {s : Shared} {Q : VK} {us : List Value} {vs : List V} (F : FnOkG X.prog X.w X.K X.mg X.base CX k f fd ps sp) (hr : RoomG k X.A) (hb : Binds X.K fd ps ds) (hd : Vals dvs ds) (hx : Passes CX X E)
    (I : Inv X pins σ H s) (r : Vals vs us) (h : sp (vs ++ dvs) H Q E) : wpAny (model X.prog X.w) X.A (call (.ref f) us) (EP X pins σ Q) X.xe s := by
  have r2 : Vals (vs ++ dvs) (us ++ ds) := r.append hd
  have hl : (us ++ ds).length = ps.length := by rw [← r2.length]; exact F.len _ _ _ _ h
  refine wpAny_call (codeAny_mono (F.run X.A X.stack s H ⟨us, []⟩ (us ++ ds) (vs ++ dvs) Q E hr I.env0 (hb s us I.kIn hl) r2 h) fun r s' hq => ?_)
  cases r with
  | error e => exact hx pins σ H s e s' I hq
  | ok fl =>
    cases fl with
    | ret u => exact I.after hq
    | next => exact False.elim hq
    | brk => exact False.elim hq
    | cont => exact False.elim hq
theorem pe_callG (F : FnOkG X.prog X.w X.K X.mg X.base CX k f fd ps sp) (hr : RoomG k X.A) (hg : Gl X x) (hm : X.mg x = some (.ref f)) (hk : PySem.W.keepIn X.K (.ref f) = true) (hb : Binds X.K fd ps ds) (hd : Vals dvs ds) (hx : Passes CX X E)
    (ha : PA X (e :: es) t) (hdb : (x == ("__debug__" : Str)) = false := by decide) (he : starEach (e :: es) X.env = (false, eval e X.env) :: starEach es X.env := by rfl) (hpl : (backTo pos (starEach es X.env)).any (·.1) = false := by rfl) :
    PE X (.Call (.Name x p) (e :: es) [] pos) (tCall sp dvs E t) := by
  refine ⟨fun pins s σ H Q I h => ?_⟩
  refine wpAny_Call_Name_kw (ld_glob I hg hm ?_ hdb)
  refine PySem.W.callWith_K (h₀ := X.base) I.ok.mod.kin hk (thn (ha.run pos pins s σ H _ I h) fun us s1 ⟨vs, H1, I1, r, q⟩ => ⟨I1.kIn, ?_⟩) he hpl
  exact run_fnG F hr hb hd hx I1 r q
theorem pe_callG0 (F : FnOkG X.prog X.w X.K X.mg X.base CX k f fd ps sp) (hr : RoomG k X.A) (hg : Gl X x) (hm : X.mg x = some (.ref f)) (hk : PySem.W.keepIn X.K (.ref f) = true) (hb : Binds X.K fd ps ds) (hd : Vals dvs ds) (hx : Passes CX X E)
    (hdb : (x == ("__debug__" : Str)) = false := by decide) : PE X (.Call (.Name x p) [] [] pos) (tCall sp dvs E tNil) := by
  refine ⟨fun pins s σ H Q I h => ?_⟩
  refine wpAny_Call_Name_kw (ld_glob I hg hm ?_ hdb)
  exact PySem.W.callWith_K0 I.kIn hk (run_fnG (us := []) F hr hb hd hx I .nil h)
end
/-! ### the law's end -/
theorem law_callG {P : Program} {w : World} {K : PySem.W.Frag} {mg mb : Str → Option Value} {CX : CXT} {k : Nat} {fa a : Addr} {fd : FuncData} {x : Str} {sp : Sp} {s₁ : Shared} {vs : List Value} {ns : List Int}
    (KX : K.In s₁.heap) (hns : s₁.heap.Ns mainGlobals mg) (hb : s₁.heap.Ns builtinsNs mb) (hbb : ∀ x : Str, x ≠ "__name__" → mb x = bootBuiltins x) (hlim : s₁.heap.NoLimit) (hg : s₁.gens = #[])
    (ha : s₁.heap.get? a = some { cls := .type "list", data := .seq vs.toArray }) (hi : IntsAre vs ns) (hl : ns.length ≤ sizeLine) (hr : Room k callerA)
    (F : ∀ base : Heap, K.In base → base.Ns mainGlobals mg → FnOkG P w K mg base CX k fa fd [x] sp) (hbind : ∀ (s : Shared) (u : Value), BindsTo s fd ⟨[u], []⟩ [(x, u)])
    (hsp : ∀ H : Hp, Only H → SqL K H a (ns.map V.int) → sp [.ref a] H (fun v _ => v = .bl true) fun _ _ _ => False)
    (hCX : ∀ H e s', CX [] H s₁ (fun _ _ _ => False) e s' → False) :
    codeAny (model P w) callerA (.call (.ref fa) ⟨[.ref a], []⟩) (fun r s' => r = .ok (.ret (.bool true)) ∧ OldK s₁.heap s'.heap ∧ s'.os = s₁.os ∧ AllBare s'.gens) s₁ := by
  have rv := vals_ints hi
  have lenV := hi.length
  have core : ∀ H : Hp, Only H → SqL K H a (ns.map V.int) → HOk P w H s₁.heap → (∀ b, H b ≠ none → b = a) → (H a ≠ none → K.lookup a = none) →
      codeAny (model P w) callerA (.call (.ref fa) ⟨[.ref a], []⟩) (fun r s' => r = .ok (.ret (.bool true)) ∧ OldK s₁.heap s'.heap ∧ s'.os = s₁.os ∧ AllBare s'.gens) s₁ := by
    intro H hO hS hok hA hK
    have base_of : ∀ {b : Addr} {o : Obj}, s₁.heap.get? b = some o → H b = none → (hidT s₁.heap H).get? b = some o := fun e n => hidT_get e n
    have noA : ∀ {b : Addr} {o : Obj} {es : Array DictEntry} {ep : Nat}, s₁.heap.get? b = some o → o.data = .dict es ep → H b = none := fun {b o es ep} e d => by
      cases q : H b with
      | none => rfl
      | some u =>
        have e' : b = a := hA b (by rw [q]; simp)
        subst e'
        rw [ha] at e; cases e
        have d' : Data.seq vs.toArray _ = Data.dict es ep := d
        cases d'
    have nsK : ∀ {b : Addr} {m : Str → Option Value}, s₁.heap.Ns b m → (hidT s₁.heap H).Ns b m := fun {b m} ⟨o, es, ep, e, d, r⟩ => ⟨o, es, ep, base_of e (noA e d), d, r⟩
    have hKb : K.In (hidT s₁.heap H) := fun b o e => base_of (KX b o e) (by
      cases q : H b with
      | none => rfl
      | some u =>
        have e' : b = a := hA b (by rw [q]; simp)
        subst e'
        rw [hK (by rw [q]; simp)] at e; cases e)
    have hM : Mod K mg (hidT s₁.heap H) := ⟨hKb, nsK hns, ⟨mb, nsK hb, hbb⟩, let ⟨mc, h1, h2⟩ := hlim; ⟨mc, nsK h1, h2⟩⟩
    have e0 : Env0 P w K mg (hidT s₁.heap H) callerA [] s₁ H := ⟨rfl, hM, fun b o e => of_hidT e, Nat.le_of_eq (hidT_size _ _), trivial, fun b hb => absurd (show b ∈ ([] : List Addr) from hb) (by simp), hok, .of_eq hg⟩
    refine codeAny_mono ((F _ hKb (nsK hns)).run callerA [] s₁ H ⟨[.ref a], []⟩ [.ref a] [.ref a] _ _ ⟨hr, rfl⟩ e0 (hbind s₁ (.ref a)) (.cons rfl .nil) (hsp H hO hS)) fun r s' h => ?_
    cases r with
    | error e => exact (hCX H e s' h).elim
    | ok fl =>
      cases fl with
      | next => exact False.elim h
      | brk => exact False.elim h
      | cont => exact False.elim h
      | ret u =>
        obtain ⟨v, H', os, bare, un, hok', r', q⟩ := h
        have q' : v = .bl true := q
        subst q'
        obtain rfl : u = Value.bool true := r'
        refine ⟨rfl, OldK.of_keep fun b o e => ?_, os, bare⟩
        cases q : H b with
        | none => exact un.keep b o e q (by intro z; exact absurd (show b ∈ ([] : List Addr) from z) (by simp)) (by simp)
        | some u =>
          rcases hO b with z | ⟨ob, xs, z⟩
          · rw [q] at z; cases z
          · have z2 := un.frzs b ob _ z
            obtain ⟨e1, _⟩ := hok b _ z
            obtain ⟨e2, _⟩ := hok' b _ z2
            rw [e] at e1; cases e1
            exact e2
  cases hk : K.lookup a with
  | some o =>
    have e := KX a o hk
    rw [ha] at e
    cases e
    refine core (fun _ => none) (fun _ => .inl rfl) (.inr ⟨_, vs.toArray, _, hk, rfl, rfl, rfl, by rw [List.size_toArray, lenV]; exact hl, by simpa using rv⟩) (fun b u z => by have z' : (none : Option HO) = some u := z; cases z') (fun b z => absurd rfl z) fun z => absurd rfl z
  | none =>
    refine core (fun b => if b = a then some (.frz { cls := .type "list", data := .seq vs.toArray } (.lst (ns.map V.int))) else none) (fun b => ?_) (.inl (.inr ⟨{ cls := .type "list", data := .seq vs.toArray }, if_pos rfl⟩)) (fun b u z => ?_) (fun b z => ?_) fun _ => hk
    · by_cases hb : b = a
      · exact .inr ⟨_, _, if_pos hb⟩
      · exact .inl (if_neg hb)
    · by_cases hb : b = a
      · have z' := (if_pos hb).symm.trans z
        cases z'
        subst hb
        exact ⟨ha, by rw [List.length_map]; exact hl, vs, _, rv, ha⟩
      · have z' := (if_neg hb).symm.trans z
        cases z'
    · by_cases hb : b = a
      · exact hb
      · exact absurd (if_neg hb) z
theorem walk_ofG {l : PySem.W.OpenLaw} {n k : Nat} {q : Program} {loose : List Str} {XP : (Str → Option Value) → Heap → Prop} {YP : World → Heap → Prop} {d : DefRec} {K : Params → PySem.W.Frag} {CX : World → CXT} {sp : World → Sp} {x : Str}
    (hn : l.most = some n) (hn2 : n ≤ sizeLine) (hdf : d.params.defaults = []) (hr : Room k callerA)
    (hY : ∀ (w : World) (h : Heap), YP w h → (K w.params).In h)
    (F : ∀ (w : World) (mg : Str → Option Value) (fa : Addr) (h : Heap), (K w.params).In h → h.Ns mainGlobals mg → mg d.name = some (.ref fa) →
      ∃ fd : FuncData, (∀ (s : Shared) (u : Value), BindsTo s fd ⟨[u], []⟩ [(x, u)]) ∧
        ∀ base : Heap, (K w.params).In base → base.Ns mainGlobals mg → FnOkG l.prog w (K w.params) mg base (CX w) k fa fd [x] (sp w))
    (hsp : ∀ (w : World) (H : Hp) (a : Addr) (ns : List Int), ns.length ≤ n → Only H → SqL (K w.params) H a (ns.map V.int) → sp w [.ref a] H (fun v _ => v = .bl true) fun _ _ _ => False)
    (hCX : ∀ (w : World) (H : Hp) (s : Shared) (e : Value) (s' : Shared), CX w [] H s (fun _ _ _ => False) e s' → False) :
    PySem.W.WalkO q loose XP YP l.row.toRowW d [] (fun f vs => PySem.call f vs) := by
  refine Att.attach_call hn hdf fun w s₀ s₁ mg mb fa o pm cd doc a vs ns G Y ho hd hcd hmg hobj hints hlen hg => ?_
  have KX := hY w _ Y
  obtain ⟨fd, hb, hF⟩ := F w mg fa _ KX G.T.g hmg
  exact law_callG KX G.T.g G.T.b G.T.builtins G.T.nolimit hg hobj hints (Nat.le_trans hlen hn2) hr hF hb (fun H hO hS => hsp w H a ns hlen hO hS) fun H e s' => hCX w H s₁ e s'
/-! ### repr of data -/
/-- repr(x), x data at any depth -/
def rRepr (K : PySem.W.Frag) : List V → Hp → VK → Prop := fun xs H Q => ∃ a d, xs = [.ref a] ∧ Dp K H (.ref a) d ∧ d.showable = true ∧ d.hasDict = false ∧ d.depth ≤ 40 ∧ d.shown.length ≤ sizeLine ∧ Q (.str d.shown) H
theorem call_repr {X : Cx} {k : Nat} (hr : RoomG k X.A) : CallR X (.builtin "repr") (rRepr X.K) := by
  intro pins s σ H xs us Q I r h
  obtain ⟨a, d, rfl, hd, h1, h2, h3, h4, q⟩ := h
  cases r with
  | cons r0 rr =>
    cases rr
    cases r0
    obtain ⟨as, hR⟩ := Dp.reads I d _ _ hd rfl
    refine repr_of_reads' hR h1 (PyData.noDict_hsm h2) hr.gd (by have := hr.un; omega) (fun _ _ z => z) (fun h' u tk kk => ⟨.str d.shown, H, I.kept (t' := tk) kk, ⟨u, rfl⟩, q⟩) h4
end L2

set_option Elab.async false
set_option linter.all false
set_option maxRecDepth 100000
set_option maxHeartbeats 4000000
/-! RI1: readings answered by reckoning: values W, objects OB in a list, the link Den between such a list and the abstract heap, and for each reading t a function f that decides it (Sat f t). -/
namespace RI
open PySem L2

/-- the own classes by number; how much later the draws are counted -/
structure CL where
  adr : Nat → Addr
  sh : Nat
inductive W where
  | non | bl (b : Bool) | int (i : Int) | str (x : Str) | ref (k : Nat) | ad (a : Addr) | ty (n : String) | cls (c : Nat) | shown (ds : List PyData)
inductive OB where
  | lst (xs : List W) | tup (xs : List W) | dK (kvs : List (Key × W)) | exo (c : Nat) (d : Option Nat) | exd (fs : List (Str × W)) | pen (q b : Nat) | cells | un
abbrev SS := List OB
/-! lists, by their recursor (quick to reckon) -/
noncomputable def getR {α : Type} (l : List α) (k : Nat) : Option α := @List.rec α (fun _ => Nat → Option α) (fun _ => none) (fun a _ ih k => @Nat.rec (fun _ => Option α) (some a) (fun j _ => ih j) k) l k
noncomputable def setR {α : Type} (l : List α) (k : Nat) (b : α) : List α := @List.rec α (fun _ => Nat → List α) (fun _ => []) (fun a t ih k => @Nat.rec (fun _ => List α) (b :: t) (fun j _ => a :: ih j) k) l k
noncomputable def lenR {α : Type} (l : List α) : Nat := @List.rec α (fun _ => Nat) 0 (fun _ _ ih => Nat.succ ih) l
noncomputable def appR {α : Type} (l m : List α) : List α := @List.rec α (fun _ => List α) m (fun a _ ih => a :: ih) l
theorem getR_eq {α : Type} : ∀ (l : List α) (k : Nat), getR l k = l[k]?
  | [], _ => rfl
  | _ :: _, 0 => rfl
  | _ :: l, k + 1 => (getR_eq l k).trans (List.getElem?_cons_succ ..).symm
theorem setR_eq {α : Type} : ∀ (l : List α) (k : Nat) (b : α), setR l k b = l.set k b
  | [], _, _ => rfl
  | _ :: _, 0, _ => rfl
  | a :: l, k + 1, b => congrArg (a :: ·) (setR_eq l k b)
theorem lenR_eq {α : Type} : ∀ l : List α, lenR l = l.length
  | [] => rfl
  | _ :: l => congrArg Nat.succ (lenR_eq l)
theorem appR_eq {α : Type} : ∀ l m : List α, appR l m = l ++ m
  | [], _ => rfl
  | a :: l, m => congrArg (a :: ·) (appR_eq l m)
abbrev EE := List (Option W)

def RelW (cl : CL) (ρ : List Addr) : W → V → Prop
  | .non, v => v = .non
  | .bl b, v => v = .bl b
  | .int i, v => v = .int i
  | .str x, v => v = .str x
  | .ref k, v => ∃ a, ρ[k]? = some a ∧ v = .ref a
  | .ad a, v => v = .ref a
  | .ty n, v => v = .ty n
  | .cls c, v => v = .ref (cl.adr c)
  | .shown ds, v => v = .str (listText (PyData.shownAll ds))
abbrev RelWs (cl : CL) (ρ : List Addr) : List W → List V → Prop := Paired (RelW cl ρ)
def RelF (cl : CL) (ρ : List Addr) : List (Str × W) → List (Str × V) → Prop := Paired fun p q => p.1 = q.1 ∧ RelW cl ρ p.2 q.2
def RelK (cl : CL) (ρ : List Addr) : List (Key × W) → List (Key × V) → Prop := Paired fun p q => p.1 = q.1 ∧ RelW cl ρ p.2 q.2
def RelO (cl : CL) (ρ : List Addr) (a : Addr) : OB → HO → Prop
  | .lst xs, u => ∃ vs, u = .lst vs ∧ RelWs cl ρ xs vs
  | .tup xs, u => ∃ vs, u = .tup vs ∧ RelWs cl ρ xs vs
  | .dK kvs, u => ∃ vs, u = .dK vs ∧ RelK cl ρ kvs vs
  | .exo c none, u => u = exo a (cl.adr c) none
  | .exo c (some k), u => ∃ dx, ρ[k]? = some dx ∧ u = exo a (cl.adr c) (some dx)
  | .exd fs, u => ∃ vs, u = exd a vs ∧ RelF cl ρ fs vs
  | .pen q b, u => ∃ (aq : Addr) (i g : Int), ρ[q]? = some aq ∧ u = .lst [.ref aq, .int i, .int g] ∧ 0 ≤ i ∧ i + (cl.sh : Int) ≤ (b : Int) ∧ 0 ≤ g
  | .cells, u => ∃ ns : List Int, u = .lst (ns.map V.int) ∧ ns.length ≤ 63
  | .un, _ => True
def RelE (cl : CL) (ρ : List Addr) : EE → St → Prop := Paired fun ow ov => ∀ w, ow = some w → ∃ v, ov = some v ∧ RelW cl ρ w v

/-! the objects, the newest first -/
noncomputable def getS (S : SS) (k : Nat) : Option OB := match Nat.blt k (lenR S) with
  | true => getR S (Nat.sub (lenR S) (Nat.succ k))
  | false => none
noncomputable def pushS (S : SS) (o : OB) : SS := o :: S
noncomputable def setS (S : SS) (k : Nat) (o : OB) : SS := setR S (Nat.sub (lenR S) (Nat.succ k)) o
theorem getS_eq (S : SS) (k : Nat) : getS S k = S.reverse[k]? := by
  unfold getS
  rw [lenR_eq]
  cases h : Nat.blt k S.length with
  | true =>
    have hk : k < S.length := PySem.W.Z.blt_iff.mp h
    show getR S (S.length - (k + 1)) = _
    rw [getR_eq, List.getElem?_reverse hk]
    congr 1
    omega
  | false =>
    have hk : ¬ k < S.length := fun q => by
      have : Nat.blt k S.length = true := PySem.W.Z.blt_iff.mpr q
      rw [this] at h; cases h
    rw [List.getElem?_eq_none (by simpa using hk)]
theorem pushS_eq (S : SS) (o : OB) : (pushS S o).reverse = S.reverse ++ [o] := by simp [pushS]
theorem setS_get (S : SS) (k : Nat) (o : OB) (h : k < S.length) : (setS S k o).reverse = S.reverse.set k o := by
  unfold setS
  rw [setR_eq, lenR_eq]
  show (S.set (S.length - (k + 1)) o).reverse = _
  apply List.ext_getElem?
  intro j
  by_cases hj : j < S.length
  · rw [List.getElem?_reverse (by simpa using hj), List.getElem?_set, List.getElem?_set, List.length_set, List.length_reverse, List.getElem?_reverse hj]
    by_cases e : k = j
    · subst e
      rw [if_pos (by omega), if_pos rfl, if_pos (by omega), if_pos h]
    · rw [if_neg (by omega), if_neg e]
  · rw [List.getElem?_eq_none (by simpa using hj), List.getElem?_eq_none (by simpa using hj)]
structure Den (cl : CL) (ρ : List Addr) (S : SS) (H : Hp) : Prop where
  len : ρ.length = S.length
  nd : ρ.Nodup
  at' : ∀ (k : Nat) (o : OB) (a : Addr), getS S k = some o → ρ[k]? = some a → ∃ u, H a = some u ∧ RelO cl ρ a o u

/-! ### growing -/
variable {cl : CL}
theorem get_app {ρ ρ' : List Addr} (h : ρ <+: ρ') {k : Nat} {a : Addr} (e : ρ[k]? = some a) : ρ'[k]? = some a := by
  obtain ⟨t, rfl⟩ := h
  rw [List.getElem?_append_left]
  · exact e
  · exact (List.getElem?_eq_some_iff.mp e).1
theorem RelW.mono {ρ ρ' : List Addr} (h : ρ <+: ρ') : ∀ {w : W} {v : V}, RelW cl ρ w v → RelW cl ρ' w v
  | .non, _, r | .bl _, _, r | .int _, _, r | .str _, _, r | .ad _, _, r | .ty _, _, r | .cls _, _, r | .shown _, _, r => r
  | .ref k, v, ⟨a, e, r⟩ => ⟨a, get_app h e, r⟩
theorem Paired.imp {α β : Type} {R T : α → β → Prop} (f : ∀ a b, R a b → T a b) : ∀ {l : List α} {m : List β}, Paired R l m → Paired T l m
  | _, _, .nil => .nil
  | _, _, .cons r t => .cons (f _ _ r) (Paired.imp f t)
theorem RelWs.mono {ρ ρ' : List Addr} (h : ρ <+: ρ') {xs : List W} {vs : List V} (r : RelWs cl ρ xs vs) : RelWs cl ρ' xs vs := Paired.imp (fun _ _ q => RelW.mono h q) r
theorem RelF.mono {ρ ρ' : List Addr} (h : ρ <+: ρ') {xs : List (Str × W)} {vs : List (Str × V)} (r : RelF cl ρ xs vs) : RelF cl ρ' xs vs := Paired.imp (fun _ _ q => ⟨q.1, RelW.mono h q.2⟩) r
theorem RelK.mono {ρ ρ' : List Addr} (h : ρ <+: ρ') {xs : List (Key × W)} {vs : List (Key × V)} (r : RelK cl ρ xs vs) : RelK cl ρ' xs vs := Paired.imp (fun _ _ q => ⟨q.1, RelW.mono h q.2⟩) r
theorem RelE.mono {ρ ρ' : List Addr} (h : ρ <+: ρ') {E : EE} {σ : St} (r : RelE cl ρ E σ) : RelE cl ρ' E σ := Paired.imp (fun _ _ q w e => let ⟨v, a, b⟩ := q w e; ⟨v, a, RelW.mono h b⟩) r
theorem RelO.mono {ρ ρ' : List Addr} (h : ρ <+: ρ') {a : Addr} : ∀ {o : OB} {u : HO}, RelO cl ρ a o u → RelO cl ρ' a o u
  | .lst _, _, ⟨vs, e, r⟩ => ⟨vs, e, r.mono h⟩
  | .tup _, _, ⟨vs, e, r⟩ => ⟨vs, e, r.mono h⟩
  | .dK _, _, ⟨vs, e, r⟩ => ⟨vs, e, r.mono h⟩
  | .exo _ none, _, e => e
  | .exo _ (some _), _, ⟨dx, e, r⟩ => ⟨dx, get_app h e, r⟩
  | .exd _, _, ⟨vs, e, r⟩ => ⟨vs, e, r.mono h⟩
  | .pen _ _, _, ⟨aq, i, g, e, r⟩ => ⟨aq, i, g, get_app h e, r⟩
  | .cells, _, r => r
  | .un, _, _ => trivial
theorem pre_refl {ρ : List Addr} : ρ <+: ρ := ⟨[], by simp⟩
theorem pre_app {ρ : List Addr} {p : Addr} : ρ <+: ρ ++ [p] := ⟨[p], rfl⟩
theorem pre_trans {a b c : List Addr} (h : a <+: b) (g : b <+: c) : a <+: c := h.trans g

section
variable {ρ : List Addr} {S : SS} {H : Hp}
theorem Den.get (D : Den cl ρ S H) {k : Nat} {o : OB} (h : getS S k = some o) : ∃ a u, ρ[k]? = some a ∧ H a = some u ∧ RelO cl ρ a o u := by
  have hk : k < ρ.length := by rw [D.len, ← List.length_reverse]; exact (List.getElem?_eq_some_iff.mp ((getS_eq _ _).symm.trans h)).1
  obtain ⟨u, a, b⟩ := D.at' k o ρ[k] h (List.getElem?_eq_getElem hk)
  exact ⟨_, u, List.getElem?_eq_getElem hk, a, b⟩
theorem Den.there (D : Den cl ρ S H) {k : Nat} {a : Addr} (h : ρ[k]? = some a) : ∃ u, H a = some u := by
  have hk : k < S.reverse.length := by rw [List.length_reverse, ← D.len]; exact (List.getElem?_eq_some_iff.mp h).1
  obtain ⟨u, e, _⟩ := D.at' k S.reverse[k] a ((getS_eq _ _).trans (List.getElem?_eq_getElem hk)) h
  exact ⟨u, e⟩
theorem Den.fresh (D : Den cl ρ S H) {p : Addr} (hp : H p = none) : p ∉ ρ := fun h => by
  obtain ⟨k, hk, e⟩ := List.getElem_of_mem h
  obtain ⟨u, q⟩ := D.there (k := k) (a := p) (by rw [List.getElem?_eq_getElem hk, e])
  rw [hp] at q
  cases q
/-- a new object -/
theorem Den.new (D : Den cl ρ S H) {p : Addr} {o : OB} {u : HO} (hp : H p = none) (r : RelO cl (ρ ++ [p]) p o u) : Den cl (ρ ++ [p]) (pushS S o) (upd H p u) := by
  have np := D.fresh hp
  refine ⟨by simp [D.len, pushS], ?_, fun k o' a h1 h2 => ?_⟩
  · rw [List.nodup_append]
    refine ⟨D.nd, by simp, fun a ha b hb => ?_⟩
    simp only [List.mem_singleton] at hb
    subst hb
    intro e; subst e; exact np ha
  · rw [getS_eq, pushS_eq] at h1
    by_cases hk : k < S.length
    · rw [List.getElem?_append_left (by rw [List.length_reverse]; exact hk)] at h1
      rw [List.getElem?_append_left (by rw [D.len]; exact hk)] at h2
      obtain ⟨u', e, q⟩ := D.at' k o' a ((getS_eq _ _).trans h1) h2
      refine ⟨u', ?_, q.mono pre_app⟩
      rw [upd_ne]
      · exact e
      · intro z; subst z; rw [hp] at e; cases e
    · have hk' : k = S.length := by
        have := (List.getElem?_eq_some_iff.mp h1).1
        simp at this
        omega
      subst hk'
      rw [List.getElem?_append_right (by rw [List.length_reverse]; exact Nat.le_refl _)] at h1
      rw [List.getElem?_append_right (by rw [D.len]; exact Nat.le_refl _)] at h2
      simp [D.len] at h1 h2
      subst h1; subst h2
      exact ⟨u, upd_same, r⟩
theorem new_at (D : Den cl ρ S H) {p : Addr} : (ρ ++ [p])[lenR S]? = some p := by
  rw [lenR_eq, List.getElem?_append_right (by rw [D.len]; exact Nat.le_refl _)]
  simp [D.len]
/-- an object changed -/
theorem Den.set (D : Den cl ρ S H) {k : Nat} {a : Addr} {o : OB} {u : HO} (ha : ρ[k]? = some a) (r : RelO cl ρ a o u) : Den cl ρ (setS S k o) (upd H a u) := by
  have hk : k < S.length := by rw [← D.len]; exact (List.getElem?_eq_some_iff.mp ha).1
  refine ⟨by unfold setS; rw [setR_eq]; simp [D.len], D.nd, fun j o' b h1 h2 => ?_⟩
  rw [getS_eq, setS_get S k o hk] at h1
  by_cases hj : k = j
  · subst hj
    rw [List.getElem?_set_self (by rw [List.length_reverse]; exact hk)] at h1
    cases h1
    rw [ha] at h2
    cases h2
    exact ⟨u, upd_same, r⟩
  · rw [List.getElem?_set_ne hj] at h1
    obtain ⟨u', e, q⟩ := D.at' j o' b ((getS_eq _ _).trans h1) h2
    refine ⟨u', ?_, q⟩
    rw [upd_ne]
    · exact e
    · intro z
      subst z
      obtain ⟨h3, e3⟩ := List.getElem?_eq_some_iff.mp ha
      obtain ⟨h4, e4⟩ := List.getElem?_eq_some_iff.mp h2
      exact hj ((List.getElem_inj D.nd).mp (e3.trans e4.symm))
end
theorem RelWs.get {ρ : List Addr} : ∀ {xs : List W} {vs : List V} {i : Nat} {w : W}, RelWs cl ρ xs vs → xs[i]? = some w → ∃ v, vs[i]? = some v ∧ RelW cl ρ w v
  | _, _, _, _, .nil, e => by simp at e
  | _, _, 0, _, .cons r _, e => by simp at e; subst e; exact ⟨_, rfl, r⟩
  | _, _, i + 1, _, .cons _ t, e => by
    obtain ⟨v, h1, h2⟩ := RelWs.get t (i := i) (by simpa using e)
    exact ⟨v, by simpa using h1, h2⟩
theorem RelE.get {ρ : List Addr} : ∀ {E : EE} {σ : St} {i : Nat} {w : W}, RelE cl ρ E σ → getR E i = some (some w) → ∃ v, σ[i]? = some (some v) ∧ RelW cl ρ w v
  | _, _, _, _, .nil, e => by rw [getR_eq] at e; simp at e
  | _, _, 0, _, .cons r _, e => by
    rw [getR_eq] at e
    simp at e
    obtain ⟨v, h1, h2⟩ := r _ e
    exact ⟨v, by simp [h1], h2⟩
  | _, _, i + 1, _, .cons _ t, e => by
    obtain ⟨v, h1, h2⟩ := RelE.get t (i := i) e
    exact ⟨v, by simpa using h1, h2⟩
theorem RelE.set0 {ρ : List Addr} {w : W} {v : V} (r : RelW cl ρ w v) : ∀ {E : EE} {σ : St} (i : Nat), RelE cl ρ E σ → RelE cl ρ (E.set i (some w)) (σ.set i (some v))
  | _, _, _, .nil => .nil
  | _, _, 0, .cons _ t => .cons (fun w' e => by cases e; exact ⟨v, rfl, r⟩) t
  | _, _, i + 1, .cons q t => .cons q (RelE.set0 r i t)
theorem RelE.set {ρ : List Addr} {w : W} {v : V} (r : RelW cl ρ w v) {E : EE} {σ : St} (i : Nat) (q : RelE cl ρ E σ) : RelE cl ρ (setR E i (some w)) (σ.set i (some v)) := by
  rw [setR_eq]
  exact RelE.set0 r i q

theorem ff {P : Prop} (h : false = true) : P := by cases h
theorem band {a b : Bool} (h : (a && b) = true) : a = true ∧ b = true := Bool.and_eq_true_iff.mp h
/-! ### what decides a reading -/
abbrev KW := W → SS → Bool
abbrev FE := EE → SS → KW → Bool
abbrev FA := EE → SS → (List W → SS → Bool) → Bool
abbrev FT := EE → SS → (Bool → SS → Bool) → Bool
structure KS where
  nx : EE → SS → Bool
  rt : KW
  bk : EE → SS → Bool
  ct : EE → SS → Bool
abbrev FS := KS → EE → SS → Bool
/-- the continuation's link, for a value; for a statement -/
def LinkV {α β : Type} (cl : CL) (ρ : List Addr) (R : List Addr → α → β → Prop) (k : α → SS → Bool) (Q : β → Hp → Prop) : Prop :=
  ∀ w S' ρ' v H', k w S' = true → ρ <+: ρ' → Den cl ρ' S' H' → R ρ' w v → Q v H'
abbrev LinkE (cl : CL) (ρ : List Addr) (k : KW) (Q : VK) : Prop := LinkV cl ρ (RelW cl) k Q
abbrev LinkS (cl : CL) (ρ : List Addr) (k : EE → SS → Bool) (Q : St → Hp → Prop) : Prop := LinkV cl ρ (RelE cl) k Q
theorem LinkV.mono {α β : Type} {cl : CL} {ρ ρ' : List Addr} {R : List Addr → α → β → Prop} {k : α → SS → Bool} {Q : β → Hp → Prop} (L : LinkV cl ρ R k Q) (h : ρ <+: ρ') : LinkV cl ρ' R k Q :=
  fun w S' ρ2 v H' a b c d => L w S' ρ2 v H' a (h.trans b) c d
structure LinkK (cl : CL) (ρ : List Addr) (k : KS) (D : Ends) : Prop where
  nx : LinkS cl ρ k.nx D.nx
  rt : LinkE cl ρ k.rt D.rt
  bk : LinkS cl ρ k.bk D.bk
  ct : LinkS cl ρ k.ct D.ct
theorem LinkK.mono {cl : CL} {ρ ρ' : List Addr} {k : KS} {D : Ends} (L : LinkK cl ρ k D) (h : ρ <+: ρ') : LinkK cl ρ' k D := ⟨L.nx.mono h, L.rt.mono h, L.bk.mono h, L.ct.mono h⟩

def SatE (cl : CL) (f : FE) (t : TE) : Prop := ∀ ρ E S σ H k Q, RelE cl ρ E σ → Den cl ρ S H → f E S k = true → LinkE cl ρ k Q → t σ H Q
def SatA (cl : CL) (f : FA) (t : TA) : Prop := ∀ ρ E S σ H k (Q : List V → Hp → Prop), RelE cl ρ E σ → Den cl ρ S H → f E S k = true → LinkV cl ρ (RelWs cl) k Q → t σ H Q
def SatT (cl : CL) (f : FT) (t : TT) : Prop := ∀ ρ E S σ H k (Q : Bool → Hp → Prop), RelE cl ρ E σ → Den cl ρ S H → f E S k = true → LinkV cl ρ (fun _ a b => a = b) k Q → t σ H Q
def SatS (cl : CL) (f : FS) (t : TS) : Prop := ∀ ρ E S σ H k D, RelE cl ρ E σ → Den cl ρ S H → f k E S = true → LinkK cl ρ k D → t D σ H
/-- an operation on two values -/
def SatO (cl : CL) (g : W → W → SS → KW → Bool) (r : R2) : Prop := ∀ ρ S H x y v u k Q, Den cl ρ S H → RelW cl ρ x v → RelW cl ρ y u → g x y S k = true → LinkE cl ρ k Q → r v u H Q
/-- a call on values -/
def SatC (cl : CL) (g : List W → SS → KW → Bool) (r : List V → Hp → VK → Prop) : Prop := ∀ ρ S H xs vs k Q, Den cl ρ S H → RelWs cl ρ xs vs → g xs S k = true → LinkE cl ρ k Q → r vs H Q
/-- a target -/
abbrev FG := W → EE → SS → (EE → SS → Bool) → Bool
def SatG (cl : CL) (f : FG) (t : TG) : Prop := ∀ ρ E S σ H w v k (Q : St → Hp → Prop), RelE cl ρ E σ → Den cl ρ S H → RelW cl ρ w v → f w E S k = true → LinkS cl ρ k Q → t v σ H Q

section
/-! ### expressions -/
noncomputable def fVar (i : Nat) : FE := fun E S k => match getR E i with
  | some (some w) => k w S
  | _ => false
theorem sat_var {i : Nat} : SatE cl (fVar i) (tVar i) := fun ρ E S σ H k Q re D h L => by
  unfold fVar at h
  split at h
  · rename_i w e
    obtain ⟨v, e', r⟩ := re.get e
    exact ⟨v, e', L w S ρ v H h pre_refl D r⟩
  · exact ff h
def fC (w : W) : FE := fun _ S k => k w S
theorem sat_c {w : W} {v : V} (hr : ∀ ρ, RelW cl ρ w v) : SatE cl (fC w) (tC v) := fun ρ _ S _ H _ _ _ D h L => L w S ρ v H h pre_refl D (hr ρ)
theorem sat_int {i : Int} : SatE cl (fC (.int i)) (tC (.int i)) := sat_c fun _ => rfl
theorem sat_str {x : Str} : SatE cl (fC (.str x)) (tC (.str x)) := sat_c fun _ => rfl
theorem sat_bl {b : Bool} : SatE cl (fC (.bl b)) (tC (.bl b)) := sat_c fun _ => rfl
theorem sat_non : SatE cl (fC .non) (tC .non) := sat_c fun _ => rfl
theorem sat_ad {a : Addr} : SatE cl (fC (.ad a)) (tC (.ref a)) := sat_c fun _ => rfl
theorem sat_ty {n : String} : SatE cl (fC (.ty n)) (tC (.ty n)) := sat_c fun _ => rfl
def fNil : FA := fun _ S k => k [] S
def fCons (f : FE) (g : FA) : FA := fun E S k => f E S fun w S1 => g E S1 fun ws S2 => k (w :: ws) S2
theorem sat_nil : SatA cl fNil tNil := fun ρ _ S _ H _ _ _ D h L => L [] S ρ [] H h pre_refl D .nil
theorem sat_cons {f : FE} {g : FA} {te : TE} {ta : TA} (hf : SatE cl f te) (hg : SatA cl g ta) : SatA cl (fCons f g) (tCons te ta) := fun ρ E S σ H k Q re D h L =>
  hf ρ E S σ H _ _ re D h fun w S1 ρ1 v H1 h1 p1 D1 r1 => hg ρ1 E S1 σ H1 _ _ (re.mono p1) D1 h1 fun ws S2 ρ2 vs H2 h2 p2 D2 r2 =>
    L (w :: ws) S2 ρ2 (v :: vs) H2 h2 (p1.trans p2) D2 (.cons (r1.mono p2) r2)
def fOp (g : W → W → SS → KW → Bool) (fa fb : FE) : FE := fun E S k => fa E S fun x S1 => fb E S1 fun y S2 => g x y S2 k
theorem sat_op {g : W → W → SS → KW → Bool} {r : R2} {fa fb : FE} {ta tb : TE} (hg : SatO cl g r) (ha : SatE cl fa ta) (hb : SatE cl fb tb) : SatE cl (fOp g fa fb) (tOp r ta tb) := fun ρ E S σ H k Q re D h L =>
  ha ρ E S σ H _ _ re D h fun x S1 ρ1 v H1 h1 p1 D1 r1 => hb ρ1 E S1 σ H1 _ _ (re.mono p1) D1 h1 fun y S2 ρ2 u H2 h2 p2 D2 r2 =>
    hg ρ2 S2 H2 x y v u k Q D2 (r1.mono p2) r2 h2 (L.mono (p1.trans p2))
def fCB (g : List W → SS → KW → Bool) (fa : FA) : FE := fun E S k => fa E S fun xs S1 => g xs S1 k
theorem sat_cb {g : List W → SS → KW → Bool} {r : List V → Hp → VK → Prop} {fa : FA} {ta : TA} (hg : SatC cl g r) (ha : SatA cl fa ta) : SatE cl (fCB g fa) (tCB r ta) := fun ρ E S σ H k Q re D h L =>
  ha ρ E S σ H _ _ re D h fun xs S1 ρ1 vs H1 h1 p1 D1 r1 => hg ρ1 S1 H1 xs vs k Q D1 r1 h1 (L.mono p1)
theorem RelWs.len {ρ : List Addr} {xs : List W} {vs : List V} (r : RelWs cl ρ xs vs) : vs.length = xs.length := (Paired.length r).symm
noncomputable def fLst (fa : FA) : FE := fun E S k => fa E S fun xs S1 => Nat.ble (lenR xs) 16777216 && k (.ref (lenR S1)) (pushS S1 (.lst xs))
theorem sat_lst {fa : FA} {ta : TA} (ha : SatA cl fa ta) : SatE cl (fLst fa) (tLst ta) := fun ρ E S σ H k Q re D h L =>
  ha ρ E S σ H _ _ re D h fun xs S1 ρ1 vs H1 h1 p1 D1 r1 => ⟨by rw [r1.len, sizeLine_eq, ← lenR_eq]; exact Nat.le_of_ble_eq_true (band h1).1, fun p hp =>
    L _ _ _ _ _ (band h1).2 (p1.trans pre_app) (D1.new hp ⟨vs, rfl, r1.mono pre_app⟩) ⟨p, new_at D1, rfl⟩⟩
noncomputable def fTup (fa : FA) : FE := fun E S k => fa E S fun xs S1 => Nat.ble (lenR xs) 16777216 && k (.ref (lenR S1)) (pushS S1 (.tup xs))
theorem sat_tup {fa : FA} {ta : TA} (ha : SatA cl fa ta) : SatE cl (fTup fa) (tTup ta) := fun ρ E S σ H k Q re D h L =>
  ha ρ E S σ H _ _ re D h fun xs S1 ρ1 vs H1 h1 p1 D1 r1 => ⟨by rw [r1.len, sizeLine_eq, ← lenR_eq]; exact Nat.le_of_ble_eq_true (band h1).1, fun p hp =>
    L _ _ _ _ _ (band h1).2 (p1.trans pre_app) (D1.new hp ⟨vs, rfl, r1.mono pre_app⟩) ⟨p, new_at D1, rfl⟩⟩
noncomputable def fDNew : FE := fun _ S k => k (.ref (lenR S)) (pushS S (.dK []))
theorem sat_dnew : SatE cl fDNew tDNewK := fun ρ _ S _ H k Q _ D h L => fun p hp =>
    L _ _ _ _ _ h pre_app (D.new hp ⟨[], rfl, .nil⟩) ⟨p, new_at D, rfl⟩
def fIf (c : FT) (fa fb : FE) : FE := fun E S k => c E S fun b S1 => match b with
  | true => fa E S1 k
  | false => fb E S1 k
theorem sat_if {c : FT} {fa fb : FE} {tc : TT} {ta tb : TE} (hc : SatT cl c tc) (ha : SatE cl fa ta) (hb : SatE cl fb tb) : SatE cl (fIf c fa fb) (tIf tc ta tb) := fun ρ E S σ H k Q re D h L =>
  hc ρ E S σ H _ _ re D h fun b S1 ρ1 b' H1 h1 p1 D1 r1 => by
    subst r1
    cases b with
    | true => rw [if_pos rfl]; exact ha ρ1 E S1 σ H1 _ _ (re.mono p1) D1 h1 (L.mono p1)
    | false => rw [if_neg (by decide)]; exact hb ρ1 E S1 σ H1 _ _ (re.mono p1) D1 h1 (L.mono p1)
/-! ### tests -/
def fB (f : FE) : FT := fun E S k => f E S fun w S1 => match w with
  | .bl b => k b S1
  | _ => false
theorem sat_fB {f : FE} {t : TE} {Q : Bool → Hp → Prop} {ρ E S σ H} {k : Bool → SS → Bool} (hf : SatE cl f t) (re : RelE cl ρ E σ) (D : Den cl ρ S H) (h : fB f E S k = true) (L : LinkV cl ρ (fun _ a b => a = b) k Q) : t σ H fun x H1 => ∃ c, x = .bl c ∧ Q c H1 :=
  hf ρ E S σ H _ _ re D h fun w S1 ρ1 v H1 h1 p1 D1 r1 => by
    cases w with
    | bl b => exact ⟨b, r1, L b S1 ρ1 b H1 h1 p1 D1 rfl⟩
    | _ => exact ff h1
theorem sat_test {f : FE} {t : TE} (hf : SatE cl f t) : SatT cl (fB f) (tTest t) := fun ρ E S σ H k Q re D h L => sat_fB hf re D h L
theorem sat_b {f : FE} {t : TE} (hf : SatE cl f t) : SatT cl (fB f) (tB t) := fun ρ E S σ H k Q re D h L => sat_fB hf re D h L
def fAnd (f g : FT) : FT := fun E S k => f E S fun b S1 => match b with
  | true => g E S1 k
  | false => k false S1
def fOr (f g : FT) : FT := fun E S k => f E S fun b S1 => match b with
  | true => k true S1
  | false => g E S1 k
def fNot (f : FT) : FT := fun E S k => f E S fun b S1 => k (!b) S1
theorem sat_and {f g : FT} {t u : TT} (hf : SatT cl f t) (hg : SatT cl g u) : SatT cl (fAnd f g) (tAnd t u) := fun ρ E S σ H k Q re D h L =>
  hf ρ E S σ H _ _ re D h fun b S1 ρ1 b' H1 h1 p1 D1 r1 => by
    subst r1
    cases b with
    | true => rw [if_pos rfl]; exact hg ρ1 E S1 σ H1 _ _ (re.mono p1) D1 h1 (L.mono p1)
    | false => rw [if_neg (by decide)]; exact L _ _ _ _ _ h1 p1 D1 rfl
theorem sat_or {f g : FT} {t u : TT} (hf : SatT cl f t) (hg : SatT cl g u) : SatT cl (fOr f g) (tOr t u) := fun ρ E S σ H k Q re D h L =>
  hf ρ E S σ H _ _ re D h fun b S1 ρ1 b' H1 h1 p1 D1 r1 => by
    subst r1
    cases b with
    | true => rw [if_pos rfl]; exact L _ _ _ _ _ h1 p1 D1 rfl
    | false => rw [if_neg (by decide)]; exact hg ρ1 E S1 σ H1 _ _ (re.mono p1) D1 h1 (L.mono p1)
theorem sat_not {f : FT} {t : TT} (hf : SatT cl f t) : SatT cl (fNot f) (tNot t) := fun ρ E S σ H k Q re D h L =>
  hf ρ E S σ H _ _ re D h fun b S1 ρ1 b' H1 h1 p1 D1 r1 => by
    subst r1
    exact L _ _ _ _ _ h1 p1 D1 rfl
def fNotV (f : FE) : FE := fun E S k => fB f E S fun b S1 => k (.bl (!b)) S1
theorem sat_notV {f : FE} {t : TE} (hf : SatE cl f t) : SatE cl (fNotV f) (tNotV t) := fun ρ E S σ H k Q re D h L =>
  sat_fB hf re D h fun b S1 ρ1 b' H1 h1 p1 D1 r1 => by subst r1; exact L _ _ _ _ _ h1 p1 D1 rfl
def fAndV (f g : FE) : FE := fun E S k => fB f E S fun b S1 => match b with
  | true => g E S1 k
  | false => k (.bl false) S1
theorem sat_andV {f g : FE} {t u : TE} (hf : SatE cl f t) (hg : SatE cl g u) : SatE cl (fAndV f g) (tAndV t u) := fun ρ E S σ H k Q re D h L => by
  unfold tAndV
  refine hf ρ E S σ H _ _ re D h fun w S1 ρ1 v H1 h1 p1 D1 r1 => ?_
  cases w with
  | bl b =>
    refine ⟨b, r1, ?_⟩
    cases b with
    | true => rw [if_pos rfl]; exact hg ρ1 E S1 σ H1 _ _ (re.mono p1) D1 h1 (L.mono p1)
    | false => rw [if_neg (by decide)]; exact L _ _ _ _ _ h1 p1 D1 rfl
  | _ => exact ff h1
def fOrV (f g : FE) : FE := fun E S k => fB f E S fun b S1 => match b with
  | true => k (.bl true) S1
  | false => g E S1 k
theorem sat_orV {f g : FE} {t u : TE} (hf : SatE cl f t) (hg : SatE cl g u) : SatE cl (fOrV f g) (tOrV t u) := fun ρ E S σ H k Q re D h L => by
  unfold tOrV
  refine hf ρ E S σ H _ _ re D h fun w S1 ρ1 v H1 h1 p1 D1 r1 => ?_
  cases w with
  | bl b =>
    refine ⟨b, r1, ?_⟩
    cases b with
    | true => rw [if_pos rfl]; exact L _ _ _ _ _ h1 p1 D1 rfl
    | false => rw [if_neg (by decide)]; exact hg ρ1 E S1 σ H1 _ _ (re.mono p1) D1 h1 (L.mono p1)
  | _ => exact ff h1
/-! ### statements -/
def fNext : FS := fun k E S => k.nx E S
def fSeq (f g : FS) : FS := fun k E S => f { k with nx := fun E' S' => g k E' S' } E S
def fRet (f : FE) : FS := fun k E S => f E S k.rt
def fRetN : FS := fun k _ S => k.rt .non S
def fIfS (c : FT) (f g : FS) : FS := fun k E S => c E S fun b S1 => match b with
  | true => f k E S1
  | false => g k E S1
def fAsg (f : FE) (g : FG) : FS := fun k E S => f E S fun w S1 => g w E S1 k.nx
def fExpr (f : FE) : FS := fun k E S => f E S fun _ S1 => k.nx E S1
noncomputable def gfName (i : Nat) : FG := fun w E S k => k (setR E i (some w)) S
theorem sat_next : SatS cl fNext tNext := fun ρ E S σ H k D re Dn h L => L.nx E S ρ σ H h pre_refl Dn re
theorem sat_seq {f g : FS} {t u : TS} (hf : SatS cl f t) (hg : SatS cl g u) : SatS cl (fSeq f g) (tSeq t u) := fun ρ E S σ H k D re Dn h L =>
  hf ρ E S σ H _ _ re Dn h ⟨fun E' S' ρ' σ' H' h' p' D' r' => hg ρ' E' S' σ' H' k D r' D' h' (L.mono p'), L.rt, L.bk, L.ct⟩
theorem sat_ret {f : FE} {t : TE} (hf : SatE cl f t) : SatS cl (fRet f) (tRet t) := fun ρ E S σ H k D re Dn h L => hf ρ E S σ H _ _ re Dn h L.rt
theorem sat_retN : SatS cl fRetN tRetN := fun ρ E S σ H k D re Dn h L => L.rt _ _ _ _ _ h pre_refl Dn rfl
theorem sat_ifS {c : FT} {f g : FS} {tc : TT} {t u : TS} (hc : SatT cl c tc) (hf : SatS cl f t) (hg : SatS cl g u) : SatS cl (fIfS c f g) (tIfS tc t u) := fun ρ E S σ H k D re Dn h L =>
  hc ρ E S σ H _ _ re Dn h fun b S1 ρ1 b' H1 h1 p1 D1 r1 => by
    subst r1
    cases b with
    | true => rw [if_pos rfl]; exact hf ρ1 E S1 σ H1 _ _ (re.mono p1) D1 h1 (L.mono p1)
    | false => rw [if_neg (by decide)]; exact hg ρ1 E S1 σ H1 _ _ (re.mono p1) D1 h1 (L.mono p1)
theorem sat_gname {i : Nat} : SatG cl (gfName i) (gName i) := fun ρ E S σ H w v k Q re D r h L => L _ _ _ _ _ h pre_refl D (re.set r i)
theorem sat_asg {f : FE} {g : FG} {te : TE} {tg : TG} (hf : SatE cl f te) (hg : SatG cl g tg) : SatS cl (fAsg f g) (tAsg te tg) := fun ρ E S σ H k D re Dn h L =>
  hf ρ E S σ H _ _ re Dn h fun w S1 ρ1 v H1 h1 p1 D1 r1 => hg ρ1 E S1 σ H1 w v _ _ (re.mono p1) D1 r1 h1 (L.nx.mono p1)
end
end RI

set_option Elab.async false
set_option linter.all false
set_option maxRecDepth 100000
set_option maxHeartbeats 4000000
/-! RI2: operations, subscripts, loops, comprehensions, calls of defs. -/
noncomputable section
namespace RI
open PySem L2
section
variable {cl : CL}
/-! ### operations on ints -/
def gI0 (g : Int → Int → W) : W → W → SS → KW → Bool := fun x y S k => match x, y with
  | .int i, .int j => k (g i j) S
  | _, _ => false
theorem sat_I0 {g : Int → Int → W} {g' : Int → Int → V} (hg : ∀ ρ i j, RelW cl ρ (g i j) (g' i j)) : SatO cl (gI0 g) (rI0 g') := fun ρ S H x y v u k Q D rx ry h L => by
  cases x with
  | int i =>
    cases y with
    | int j => exact ⟨i, j, rx, ry, L _ _ _ _ _ h pre_refl D (hg _ _ _)⟩
    | _ => exact ff h
  | _ => cases y <;> exact ff h
def gI (C : Int → Int → Bool) (g : Int → Int → W) : W → W → SS → KW → Bool := fun x y S k => match x, y with
  | .int i, .int j => C i j && k (g i j) S
  | _, _ => false
theorem sat_I {C : Int → Int → Bool} {C' : Int → Int → Prop} {g : Int → Int → W} {g' : Int → Int → V} (hc : ∀ i j, C i j = true → C' i j) (hg : ∀ ρ i j, RelW cl ρ (g i j) (g' i j)) : SatO cl (gI C g) (rI C' g') := fun ρ S H x y v u k Q D rx ry h L => by
  cases x with
  | int i =>
    cases y with
    | int j => exact ⟨i, j, rx, ry, hc _ _ (band h).1, L _ _ _ _ _ (band h).2 pre_refl D (hg _ _ _)⟩
    | _ => exact ff h
  | _ => cases y <;> exact ff h
/-! ### == of scalars -/
def nlEq : List Nat → List Nat → Bool
  | [], [] => true
  | a :: l, b :: m => Nat.beq a b && nlEq l m
  | _, _ => false
theorem nlEq_iff : ∀ {l m : List Nat}, nlEq l m = true ↔ l = m
  | [], [] => by simp [nlEq]
  | a :: l, b :: m => by
    show (Nat.beq a b && nlEq l m) = true ↔ _
    rw [Bool.and_eq_true, nlEq_iff (l := l) (m := m)]
    constructor
    · rintro ⟨h1, h2⟩
      rw [Nat.eq_of_beq_eq_true h1, h2]
    · rintro h
      cases h
      exact ⟨Nat.beq_refl a, rfl⟩
  | [], _ :: _ => by simp [nlEq]
  | _ :: _, [] => by simp [nlEq]
def strEq (a b : Str) : Bool := nlEq a.cps.toList b.cps.toList
theorem strEq_iff {a b : Str} : strEq a b = true ↔ a = b := by
  unfold strEq
  rw [nlEq_iff]
  constructor
  · intro h
    cases a; cases b
    exact congrArg Str.mk (Array.ext' h)
  · intro h; rw [h]
theorem strEq_dec {a b : Str} : decide (a = b) = strEq a b := by
  by_cases h : a = b
  · rw [decide_eq_true h, strEq_iff.mpr h]
  · rw [decide_eq_false h]
    cases q : strEq a b with
    | false => rfl
    | true => exact absurd (strEq_iff.mp q) h
abbrev intEq (a b : Int) : Bool := PySem.W.Z.eqB a b
def bEq : Bool → Bool → Bool
  | true, true => true
  | false, false => true
  | _, _ => false
theorem intEq_dec {a b : Int} : decide (a = b) = intEq a b := by
  have key : intEq a b = true ↔ a = b := PySem.W.Z.eqB_iff a b
  by_cases h : a = b
  · rw [decide_eq_true h, key.mpr h]
  · rw [decide_eq_false h]
    cases q : intEq a b with
    | false => rfl
    | true => exact absurd (key.mp q) h
def eqS : W → W → Option Bool
  | .int i, .int j => some (intEq i j)
  | .str a, .str b => some (strEq a b)
  | .bl a, .bl b => some (bEq a b)
  | .non, .non => some true
  | .non, .int _ | .int _, .non | .non, .bl _ | .bl _, .non | .non, .str _ | .str _, .non | .int _, .str _ | .str _, .int _ | .bl _, .str _ | .str _, .bl _ => some false
  | _, _ => none
theorem eqS_ok {ρ : List Addr} {x y : W} {v u : V} {b : Bool} (rx : RelW cl ρ x v) (ry : RelW cl ρ y u) (h : eqS x y = some b) : scal v u = true ∧ decide (v = u) = b := by
  cases x <;> cases y <;> simp only [eqS, Option.some.injEq, reduceCtorEq] at h <;> (try exact ff h) <;> simp only [RelW] at rx ry <;> subst rx ry <;> refine ⟨rfl, ?_⟩ <;>
    first
    | (subst h; simp; done)
    | (rw [← h]; rw [← intEq_dec]; simp; done)
    | (rw [← h]; rw [← strEq_dec]; simp; done)
    | (rw [← h]; rename_i a b'; cases a <;> cases b' <;> rfl)
def gEq (neg : Bool) : W → W → SS → KW → Bool := fun x y S k => match eqS x y with
  | some b => k (.bl (xor neg b)) S
  | none => false
theorem sat_eq : SatO cl (gEq false) rEq := fun ρ S H x y v u k Q D rx ry h L => by
  unfold gEq at h
  split at h
  · rename_i b e
    obtain ⟨h1, h2⟩ := eqS_ok rx ry e
    refine ⟨h1, L _ _ _ _ _ h pre_refl D ?_⟩
    rw [h2]
    cases b <;> rfl
  · exact ff h
theorem sat_ne : SatO cl (gEq true) rNe := fun ρ S H x y v u k Q D rx ry h L => by
  unfold gEq at h
  split at h
  · rename_i b e
    obtain ⟨h1, h2⟩ := eqS_ok rx ry e
    refine ⟨h1, L _ _ _ _ _ h pre_refl D ?_⟩
    rw [h2]
    cases b <;> rfl
  · exact ff h
/-! ### flat items: in, not in -/
def flatW : W → Bool
  | .non | .bl _ | .int _ | .str _ => true
  | _ => false
def eqF : W → W → Bool
  | .non, .non => true
  | .bl a, .bl b => bEq a b
  | .bl a, .int b => intEq (if a then 1 else 0) b
  | .int a, .bl b => intEq a (if b then 1 else 0)
  | .int a, .int b => intEq a b
  | .str a, .str b => strEq a b
  | _, _ => false
theorem flat_ok {ρ : List Addr} {x : W} {v : V} (r : RelW cl ρ x v) (h : flatW x = true) : flatV v = true := by
  cases x <;> simp only [flatW, reduceCtorEq] at h <;> simp only [RelW] at r <;> subst r <;> rfl
theorem beq_int {a b : Int} : (a == b) = intEq a b := by
  rw [← intEq_dec]
  by_cases h : a = b
  · subst h; simp
  · rw [decide_eq_false h]; exact beq_eq_false_iff_ne.mpr h
theorem beq_str {a b : Str} : (a == b) = strEq a b := by
  rw [← strEq_dec]
  by_cases h : a = b
  · subst h; simp
  · rw [decide_eq_false h]; exact beq_eq_false_iff_ne.mpr h
theorem eqF_ok {ρ : List Addr} {x y : W} {v u : V} (rx : RelW cl ρ x v) (ry : RelW cl ρ y u) (fx : flatW x = true) (fy : flatW y = true) : eqV v u = eqF x y := by
  cases x <;> cases y <;> simp only [flatW, reduceCtorEq] at fx fy <;> simp only [RelW] at rx ry <;> subst rx ry <;>
    first
    | rfl
    | exact beq_int
    | exact beq_str
    | (rename_i a b; cases a <;> cases b <;> rfl)
def inF (x : W) : List W → Bool
  | [] => false
  | y :: l => eqF y x || inF x l
theorem inF_ok {ρ : List Addr} {x : W} {v : V} (rx : RelW cl ρ x v) (fx : flatW x = true) : ∀ {xs : List W} {vs : List V}, RelWs cl ρ xs vs → xs.all flatW = true → vs.all flatV = true ∧ inV v vs = inF x xs
  | [], [], .nil, _ => ⟨rfl, rfl⟩
  | y :: ys, u :: us, .cons r t, h => by
    simp only [List.all_cons, Bool.and_eq_true] at h
    obtain ⟨h1, h2⟩ := inF_ok rx fx t h.2
    refine ⟨by simp only [List.all_cons, Bool.and_eq_true]; exact ⟨flat_ok r h.1, h1⟩, ?_⟩
    show (eqV u v || inV v us) = (eqF y x || inF x ys)
    rw [h2, eqF_ok r rx h.1 fx]
def seqAt (S : SS) (k : Nat) : Option (List W) := match getS S k with
  | some (.lst xs) => some xs
  | some (.tup xs) => some xs
  | _ => none
theorem seqAt_ok {K : PySem.W.Frag} {ρ : List Addr} {S : SS} {H : Hp} (D : Den cl ρ S H) {k : Nat} {xs : List W} (h : seqAt S k = some xs) : ∃ a vs, ρ[k]? = some a ∧ RelWs cl ρ xs vs ∧ (SqL K H a vs ∨ SqT K H a vs) := by
  unfold seqAt at h
  split at h
  · rename_i ys e
    cases h
    obtain ⟨a, u, h1, h2, vs, h3, h4⟩ := D.get e
    subst h3
    exact ⟨a, vs, h1, h4, .inl (.inl (.inl h2))⟩
  · rename_i ys e
    cases h
    obtain ⟨a, u, h1, h2, vs, h3, h4⟩ := D.get e
    subst h3
    exact ⟨a, vs, h1, h4, .inr (.inl (.inl h2))⟩
  · cases h
def gIn (neg : Bool) : W → W → SS → KW → Bool := fun x y S k => match y with
  | .ref p => match seqAt S p with
    | some xs => (flatW x && xs.all flatW) && k (.bl (xor neg (inF x xs))) S
    | none => false
  | _ => false
theorem sat_in {K : PySem.W.Frag} {neg : Bool} : SatO cl (gIn neg) (rIn K neg) := fun ρ S H x y v u k Q D rx ry h L => by
  cases y with
  | ref p =>
    simp only [gIn] at h
    split at h
    · rename_i xs e
      obtain ⟨hf, h⟩ := band h
      rw [Bool.and_eq_true] at hf
      obtain ⟨a, vs, h1, h2, h3⟩ := seqAt_ok (K := K) D e
      obtain ⟨a', h1', rfl⟩ := ry
      rw [h1] at h1'; cases h1'
      obtain ⟨h4, h5⟩ := inF_ok rx hf.1 h2 hf.2
      refine ⟨a, vs, rfl, h3, flat_ok rx hf.1, h4, L _ _ _ _ _ h pre_refl D ?_⟩
      rw [h5]
      show V.bl _ = V.bl _
      cases neg <;> cases inF x xs <;> rfl
    · exact ff h
  | _ => exact ff h
/-! ### is None -/
def isN : W → Bool
  | .non => true
  | _ => false
theorem isN_ok {ρ : List Addr} {x : W} {v : V} (r : RelW cl ρ x v) : decide (v = .non) = isN x := by
  cases x <;> simp only [RelW] at r
  case ref k =>
    obtain ⟨a, _, rfl⟩ := r
    exact decide_eq_false (fun z => nomatch z)
  all_goals
    subst r
    first
      | exact decide_eq_true rfl
      | exact decide_eq_false (fun z => nomatch z)
def gIsN (neg : Bool) : W → W → SS → KW → Bool := fun x y S k => match y with
  | .non => k (.bl (xor neg (isN x))) S
  | _ => false
theorem sat_isN : SatO cl (gIsN false) (fun x y H Q => y = .non ∧ Q (.bl (decide (x = .non))) H) := fun ρ S H x y v u k Q D rx ry h L => by
  cases y with
  | non => exact ⟨ry, L _ _ _ _ _ h pre_refl D (by rw [isN_ok rx]; show V.bl _ = V.bl _; cases isN x <;> rfl)⟩
  | _ => exact ff h
theorem sat_notN : SatO cl (gIsN true) (fun x y H Q => y = .non ∧ Q (.bl (!decide (x = .non))) H) := fun ρ S H x y v u k Q D rx ry h L => by
  cases y with
  | non => exact ⟨ry, L _ _ _ _ _ h pre_refl D (by rw [isN_ok rx]; show V.bl _ = V.bl _; cases isN x <;> rfl)⟩
  | _ => exact ff h
/-! ### lists -/
def gCat : W → W → SS → KW → Bool := fun x y S k => match x, y with
  | .ref p, .ref q => match getS S p, getS S q with
    | some (.lst xs), some (.lst ys) => Nat.ble (lenR xs + lenR ys) 16777216 && k (.ref (lenR S)) (pushS S (.lst (appR xs ys)))
    | _, _ => false
  | _, _ => false
theorem Paired.app {α β : Type} {R : α → β → Prop} : ∀ {l l' : List α} {m m' : List β}, Paired R l m → Paired R l' m' → Paired R (l ++ l') (m ++ m')
  | _, _, _, _, .nil, h => h
  | _, _, _, _, .cons r t, h => .cons r (Paired.app t h)
theorem sat_cat : SatO cl gCat rCat := fun ρ S H x y v u k Q D rx ry h L => by
  cases x with
  | ref p =>
    cases y with
    | ref q =>
      simp only [gCat] at h
      split at h
      · rename_i xs ys e1 e2
        obtain ⟨a, o1, h1, h2, vs, rfl, r1⟩ := D.get e1
        obtain ⟨b, o2, h3, h4, us, rfl, r2⟩ := D.get e2
        obtain ⟨a', z1, rfl⟩ := rx
        obtain ⟨b', z2, rfl⟩ := ry
        rw [h1] at z1; cases z1
        rw [h3] at z2; cases z2
        refine ⟨a, b, vs, us, rfl, rfl, h2, h4, ?_, fun p hp => L _ _ _ _ _ (band h).2 pre_app (D.new hp ⟨_, rfl, by rw [appR_eq]; exact Paired.app (RelWs.mono pre_app r1) (RelWs.mono pre_app r2)⟩) ⟨p, new_at D, rfl⟩⟩
        rw [RelWs.len r1, RelWs.len r2, sizeLine_eq, ← lenR_eq, ← lenR_eq]
        exact Nat.le_of_ble_eq_true (band h).1
      · exact ff h
    | _ => exact ff h
  | _ => cases y <;> exact ff h
def ixW (n : Nat) : Int → Option Nat
  | .ofNat i => match Nat.blt i n with
    | true => some i
    | false => none
  | .negSucc i => match Nat.ble (i + 1) n with
    | true => some (n - (i + 1))
    | false => none
theorem ixW_eq (n : Nat) (i : Int) : ixN n i = ixW n i := by
  unfold ixN ixW
  cases i with
  | ofNat m =>
    have h0 : (0 : Int) ≤ Int.ofNat m := Int.natCast_nonneg m
    rw [if_pos h0]
    by_cases h : m < n
    · have e : Nat.blt m n = true := PySem.W.Z.blt_iff.mpr h
      rw [if_pos (by show (m : Int) < n; omega)]
      simp [e]
    · have e : Nat.blt m n = false := by
        cases q : Nat.blt m n with
        | false => rfl
        | true => exact absurd (PySem.W.Z.blt_iff.mp q) h
      rw [if_neg (by show ¬ (m : Int) < n; omega)]
      simp [e]
  | negSucc m =>
    rw [if_neg (by have := Int.negSucc_lt_zero m; omega)]
    by_cases h : m + 1 ≤ n
    · have e : Nat.ble (m + 1) n = true := PySem.W.Z.ble_iff.mpr h
      rw [if_pos (by have : Int.negSucc m = -((m : Int) + 1) := by omega
                     omega)]
      simp only [e]
      congr 1
      have : Int.negSucc m = -((m : Int) + 1) := by omega
      omega
    · have e : Nat.ble (m + 1) n = false := by
        cases q : Nat.ble (m + 1) n with
        | false => rfl
        | true => exact absurd (PySem.W.Z.ble_iff.mp q) h
      rw [if_neg (by have : Int.negSucc m = -((m : Int) + 1) := by omega
                     omega)]
      simp [e]
def getI {α : Type} (xs : List α) (i : Int) : Option α := match ixW (lenR xs) i with
  | some j => getR xs j
  | none => none
def gIx : W → W → SS → KW → Bool := fun x y S k => match x, y with
  | .ref p, .int i => match seqAt S p with
    | some xs => match getI xs i with
      | some w => k w S
      | none => false
    | none => false
  | _, _ => false
theorem getI_ok {ρ : List Addr} {xs : List W} {vs : List V} {i : Int} {w : W} (r : RelWs cl ρ xs vs) (h : getI xs i = some w) : ∃ v, atI vs i = some v ∧ RelW cl ρ w v := by
  unfold getI at h
  split at h
  · rename_i j e
    obtain ⟨v, h1, h2⟩ := RelWs.get r ((getR_eq _ _).symm.trans h)
    refine ⟨v, ?_, h2⟩
    unfold atI
    rw [ixW_eq, RelWs.len r, ← lenR_eq, e]
    exact h1
  · cases h
theorem sat_ix {K : PySem.W.Frag} : SatO cl gIx (rIx K) := fun ρ S H x y v u k Q D rx ry h L => by
  cases x with
  | ref p =>
    cases y with
    | int i =>
      simp only [gIx] at h
      split at h
      · rename_i xs e
        split at h
        · rename_i w e2
          obtain ⟨a, vs, h1, h2, h3⟩ := seqAt_ok (K := K) D e
          obtain ⟨a', z1, rfl⟩ := rx
          rw [h1] at z1; cases z1
          obtain rfl : u = .int i := ry
          obtain ⟨v, h4, h5⟩ := getI_ok h2 e2
          rcases h3 with h3 | h3
          · exact .inl ⟨a, vs, i, v, rfl, rfl, h3, h4, L _ _ _ _ _ h pre_refl D h5⟩
          · exact .inr (.inl ⟨a, vs, i, v, rfl, rfl, h3, h4, L _ _ _ _ _ h pre_refl D h5⟩)
        · exact ff h
      · exact ff h
    | _ => exact ff h
  | _ => cases y <;> exact ff h
/-! ### len -/
def gLen : List W → SS → KW → Bool := fun xs S k => match xs with
  | [.ref p] => match seqAt S p with
    | some ys => k (.int (Int.ofNat (lenR ys))) S
    | none => false
  | _ => false
theorem sat_len_seq {K : PySem.W.Frag} : SatC cl gLen (fun xs H Q => ∃ p ys, xs = [.ref p] ∧ (SqL K H p ys ∨ SqT K H p ys) ∧ Q (.int ys.length) H) := fun ρ S H xs vs k Q D r h L => by
  unfold gLen at h
  split at h
  · rename_i p
    split at h
    · rename_i ys e
      obtain ⟨a, us, h1, h2, h3⟩ := seqAt_ok (K := K) D e
      cases r with
      | cons r0 rr =>
        cases rr
        obtain ⟨a', z1, rfl⟩ := r0
        rw [h1] at z1; cases z1
        refine ⟨a, us, rfl, h3, L _ _ _ _ _ h pre_refl D ?_⟩
        show V.int _ = V.int _
        rw [RelWs.len h2, ← lenR_eq]
        rfl
    · exact ff h
  · exact ff h
/-! ### targets -/
abbrev FGs := List W → EE → SS → (EE → SS → Bool) → Bool
def gfNil : FGs := fun ws E S k => match ws with
  | [] => k E S
  | _ => false
def gfCons (g : FG) (r : FGs) : FGs := fun ws E S k => match ws with
  | w :: l => g w E S fun E1 S1 => r l E1 S1 k
  | [] => false
def gfTup (n : Nat) (r : FGs) : FG := fun w E S k => match w with
  | .ref p => match seqAt S p with
    | some xs => match getS S p with
      | some (.tup _) => Nat.beq (lenR xs) n && r xs E S k
      | _ => false
    | none => false
  | _ => false
def SatGs (cl : CL) (f : FGs) (t : TGs) : Prop := ∀ ρ E S σ H ws vs k (Q : St → Hp → Prop), RelE cl ρ E σ → Den cl ρ S H → RelWs cl ρ ws vs → f ws E S k = true → LinkS cl ρ k Q → t vs σ H Q
theorem sat_gnil : SatGs cl gfNil gNil := fun ρ E S σ H ws vs k Q re D r h L => by
  cases r with
  | nil => exact ⟨rfl, L _ _ _ _ _ h pre_refl D re⟩
  | cons _ _ => exact ff h
theorem sat_gcons {g : FG} {r : FGs} {t : TG} {u : TGs} (hg : SatG cl g t) (hr : SatGs cl r u) : SatGs cl (gfCons g r) (gCons t u) := fun ρ E S σ H ws vs k Q re D rl h L => by
  cases rl with
  | nil => exact ff h
  | cons r1 r2 => exact ⟨_, _, rfl, hg ρ E S σ H _ _ _ _ re D r1 h fun E1 S1 ρ1 σ1 H1 h1 p1 D1 re1 => hr ρ1 E1 S1 σ1 H1 _ _ _ _ re1 D1 (RelWs.mono p1 r2) h1 (L.mono p1)⟩
theorem sat_gtup {K : PySem.W.Frag} {n : Nat} {r : FGs} {u : TGs} (hr : SatGs cl r u) : SatG cl (gfTup n r) (gTup K n u) := fun ρ E S σ H w v k Q re D rw' h L => by
  cases w with
  | ref p =>
    simp only [gfTup] at h
    split at h
    · rename_i xs e
      split at h
      · rename_i ys e2
        unfold seqAt at e
        rw [e2] at e
        cases e
        obtain ⟨a, o, h1, h2, vs, rfl, r1⟩ := D.get e2
        obtain ⟨a', z1, rfl⟩ := rw'
        rw [h1] at z1; cases z1
        exact ⟨a, vs, rfl, .inl (.inl h2), (RelWs.len r1).trans ((lenR_eq _).symm.trans (Nat.eq_of_beq_eq_true (band h).1)), hr ρ E S σ H _ _ _ _ re D r1 (band h).2 L⟩
      · exact ff h
    · exact ff h
  | _ => exact ff h
/-! ### xs[i] = v -/
def gfSubL (fo fi : FE) : FG := fun w E S k => fo E S fun o S1 => fi E S1 fun i S2 => match o, i with
  | .ref p, .int j => match getS S2 p with
    | some (.lst xs) => match ixW xs.length j with
      | some m => k E (setS S2 p (.lst (xs.set m w)))
      | none => false
    | _ => false
  | _, _ => false
theorem RelWs.set {ρ : List Addr} {w : W} {v : V} (r : RelW cl ρ w v) : ∀ {xs : List W} {vs : List V} (i : Nat), RelWs cl ρ xs vs → RelWs cl ρ (xs.set i w) (vs.set i v)
  | _, _, _, .nil => .nil
  | _, _, 0, .cons _ t => .cons r t
  | _, _, i + 1, .cons q t => .cons q (RelWs.set r i t)
theorem sat_gsubL {fo fi : FE} {to ti : TE} (ho : SatE cl fo to) (hi : SatE cl fi ti) : SatG cl (gfSubL fo fi) (gSub to ti rSetL) := fun ρ E S σ H w v k Q re D rw' h L =>
  ho ρ E S σ H _ _ re D h fun o S1 ρ1 ov H1 h1 p1 D1 r1 => hi ρ1 E S1 σ H1 _ _ (RelE.mono p1 re) D1 h1 fun i S2 ρ2 iv H2 h2 p2 D2 r2 => by
    cases o with
    | ref p =>
      cases i with
      | int j =>
        simp only at h2
        split at h2
        · rename_i xs e
          split at h2
          · rename_i m em
            obtain ⟨a, u, h3, h4, vs, rfl, r3⟩ := D2.get e
            obtain ⟨a', z1, rfl⟩ := RelW.mono p2 r1
            rw [h3] at z1; cases z1
            exact ⟨a, vs, j, m, rfl, r2, h4, by rw [ixW_eq, RelWs.len r3, em], L _ _ _ _ _ h2 (p1.trans p2) (D2.set h3 ⟨_, rfl, RelWs.set (rw'.mono (p1.trans p2)) m r3⟩) (RelE.mono (p1.trans p2) re)⟩
          · exact ff h2
        · exact ff h2
      | _ => exact ff h2
    | _ => cases i <;> exact ff h2
/-! ### what is walked -/
inductive Src where
  | rng (lo : Int) (n : Nat) | lst (k : Nat) | tup (k : Nat)
/-- none: nothing is known; some none: the end -/
def itemAt : Src → SS → Nat → Option (Option W)
  | .rng lo n, _, i => match Nat.blt i n with
    | true => some (some (.int (lo + Int.ofNat i)))
    | false => some none
  | .lst k, S, i => match getS S k with
    | some (.lst xs) => match xs[i]? with
      | some w => some (some w)
      | none => match Nat.beq i xs.length with
        | true => some none
        | false => none
    | _ => none
  | .tup k, S, i => match getS S k with
    | some (.tup xs) => match xs[i]? with
      | some w => some (some w)
      | none => match Nat.beq i xs.length with
        | true => some none
        | false => none
    | _ => none
def SatSrc (cl : CL) (ρ : List Addr) (J : It) (src : Src) : Prop := ∀ ρ' S H i, ρ <+: ρ' → Den cl ρ' S H →
  match itemAt src S i with
  | some (some w) => J.go i H ∧ ∀ x H', J.yld i H x H' → H' = H ∧ RelW cl ρ' w x
  | some none => J.stop i H
  | none => True
abbrev FI := EE → SS → (Src → SS → Bool) → Bool
def SatI (cl : CL) (f : FI) (wi : TI) : Prop := ∀ ρ E S σ H k (R : It → Hp → Prop), RelE cl ρ E σ → Den cl ρ S H → f E S k = true →
  (∀ src S' ρ' J H', k src S' = true → ρ <+: ρ' → Den cl ρ' S' H' → SatSrc cl ρ' J src → R J H') → wi σ H R
def rngOk (j : Int) : Bool := PySem.W.Z.leB (-4611686018427387904) j && PySem.W.Z.ltB j 4611686018427387904
def fiRng1 (fa : FA) : FI := fun E S k => fa E S fun ws S1 => match ws with
  | [.int j] => rngOk j && k (.rng 0 j.toNat) S1
  | _ => false
theorem satSrc_rng {ρ : List Addr} {lo : Int} {n : Nat} : SatSrc cl ρ (Itr lo n) (.rng lo n) := fun ρ' S H i _ D => by
  cases q : Nat.blt i n with
  | true =>
    simp only [itemAt, q]
    exact ⟨PySem.W.Z.blt_iff.mp q, fun x H' ⟨e1, e2⟩ => ⟨e1, e2⟩⟩
  | false =>
    simp only [itemAt, q]
    show n ≤ i
    apply Nat.le_of_not_lt
    intro h
    rw [PySem.W.Z.blt_iff.mpr h] at q
    cases q
theorem sat_rng1 {fa : FA} {ta : TA} (ha : SatA cl fa ta) : SatI cl (fiRng1 fa) (iRng1 ta) := fun ρ E S σ H k R re D h L =>
  ha ρ E S σ H _ _ re D h fun ws S1 ρ1 vs H1 h1 p1 D1 r1 => by
    split at h1
    · rename_i j
      cases r1 with
      | cons r0 rr =>
        cases rr
        cases r0
        have hj := (band h1).1
        unfold rngOk at hj
        rw [Bool.and_eq_true] at hj
        have a1 := (PySem.W.Z.leB_iff _ _).mp hj.1
        have a2 := (PySem.W.Z.ltB_iff _ _).mp hj.2
        exact ⟨j, rfl, by omega, by omega, L _ _ _ _ _ (band h1).2 p1 D1 satSrc_rng⟩
    · exact ff h1
/-! ### for, its turns one by one -/
def loopS (src : Src) (g : FG) (body : FS) (K : KS) : Nat → Nat → EE → SS → Bool
  | 0, _, _, _ => false
  | m + 1, i, E, S => match itemAt src S i with
    | some (some w) => g w E S fun E2 S2 => body { nx := loopS src g body K m (i + 1), rt := K.rt, bk := K.nx, ct := loopS src g body K m (i + 1) } E2 S2
    | some none => K.nx E S
    | none => false
def fFor (fuel : Nat) (fi : FI) (g : FG) (body : FS) : FS := fun K E S => fi E S fun src S1 => loopS src g body K fuel 0 E S1
theorem sat_for {fuel : Nat} {fi : FI} {g : FG} {body : FS} {wi : TI} {tg : TG} {tb : TS} (hi : SatI cl fi wi) (hg : SatG cl g tg) (hb : SatS cl body tb) : SatS cl (fFor fuel fi g body) (tFor wi tg tb) := fun ρ E S σ H K D re Dn h L =>
  hi ρ E S σ H _ _ re Dn h fun src S1 ρ1 J H1 h1 p1 D1 sj => by
    refine ⟨fun i m σ H => ∃ ρ' E S, ρ1 <+: ρ' ∧ RelE cl ρ' E σ ∧ Den cl ρ' S H ∧ loopS src g body K m i E S = true, ⟨fuel, ρ1, E, S1, pre_refl, re.mono p1, D1, h1⟩, ?_⟩
    rintro i m σ H ⟨ρ', E', S', p', re', D', h'⟩
    cases m with
    | zero => exact ff h'
    | succ m =>
      have q := sj ρ' S' H i p' D'
      unfold loopS at h'
      split at h'
      · rename_i w e
        rw [e] at q
        refine .inr ⟨q.1, fun σ' H' => ∃ ρ2 E2 S2, ρ1 <+: ρ2 ∧ RelE cl ρ2 E2 σ' ∧ Den cl ρ2 S2 H' ∧ loopS src g body K m (i + 1) E2 S2 = true, fun σ' H' z => ⟨m, Nat.lt_succ_self m, z⟩, fun x H' y => ?_⟩
        obtain ⟨e1, rx⟩ := q.2 x H' y
        subst e1
        refine hg ρ' E' S' σ H' w x _ _ re' D' rx h' fun E2 S2 ρ2 σ2 H2 h2 p2 D2 re2 => hb ρ2 E2 S2 σ2 H2 _ _ re2 D2 h2 ?_
        have pp := p1.trans (p'.trans p2)
        exact ⟨fun E3 S3 ρ3 σ3 H3 h3 p3 D3 re3 => ⟨ρ3, E3, S3, (p'.trans p2).trans p3, re3, D3, h3⟩, L.rt.mono pp, L.nx.mono pp, fun E3 S3 ρ3 σ3 H3 h3 p3 D3 re3 => ⟨ρ3, E3, S3, (p'.trans p2).trans p3, re3, D3, h3⟩⟩
      · rename_i e
        rw [e] at q
        exact .inl ⟨q, L.nx _ _ _ _ _ h' (p1.trans p') D' re'⟩
      · exact ff h'
/-! ### list comprehensions, turn by turn -/
def wipeE (E : EE) : List Nat → EE
  | [] => E
  | v :: vs => (wipeE E vs).set v none
theorem RelE.forget {ρ : List Addr} : ∀ {E : EE} {σ : St} (i : Nat), RelE cl ρ E σ → RelE cl ρ (E.set i none) (σ.set i none)
  | _, _, _, .nil => .nil
  | _, _, 0, .cons _ t => .cons (fun _ e => nomatch e) t
  | _, _, i + 1, .cons q t => .cons q (RelE.forget i t)
theorem RelE.wipe {ρ : List Addr} {E : EE} {σ : St} (r : RelE cl ρ E σ) : ∀ vs : List Nat, RelE cl ρ (wipeE E vs) (wipe σ vs)
  | [] => r
  | v :: vs => RelE.forget v (RelE.wipe r vs)
end
end RI
end

set_option Elab.async false
set_option linter.all false
set_option maxRecDepth 100000
set_option maxHeartbeats 4000000
/-! RI3: comprehensions, defs and their calls. -/
noncomputable section
namespace RI
open PySem PySem.Spec PyProof.Rows L2
section
variable {cl : CL}
/-! ### a comprehension's own names -/
theorem wipe_get (σ : L2.St) (j : Nat) : ∀ vs : List Nat, (wipe σ vs)[j]? = if j ∈ vs then (if j < σ.length then some none else none) else σ[j]?
  | [] => by simp [wipe]
  | v :: vs => by
    unfold wipe
    have ih := wipe_get σ j vs
    by_cases h : v = j
    · subst h
      rw [List.getElem?_set_self', if_pos (by simp)]
      rw [ih]
      by_cases hm : v ∈ vs
      · rw [if_pos hm]; split <;> rfl
      · rw [if_neg hm]
        by_cases hl : v < σ.length
        · rw [if_pos hl, List.getElem?_eq_getElem hl]; rfl
        · rw [if_neg hl, List.getElem?_eq_none (by omega)]; rfl
    · rw [List.getElem?_set_ne h, ih]
      have : (j ∈ v :: vs) ↔ j ∈ vs := by
        simp only [List.mem_cons]
        constructor
        · rintro (e | e)
          · exact absurd e.symm h
          · exact e
        · exact .inr
      by_cases hm : j ∈ vs
      · rw [if_pos hm, if_pos (this.mpr hm)]
      · rw [if_neg hm, if_neg (fun z => hm (this.mp z))]
theorem wipe_set {σ : L2.St} {i : Nat} {x : Option V} {vs : List Nat} (h : i ∈ vs) : wipe (σ.set i x) vs = wipe σ vs := by
  apply List.ext_getElem?
  intro j
  rw [wipe_get, wipe_get, List.length_set]
  by_cases hm : j ∈ vs
  · rw [if_pos hm, if_pos hm]
  · rw [if_neg hm, if_neg hm, List.getElem?_set_ne]
    intro e; subst e; exact hm h
theorem wipe_wipe {σ : L2.St} {vs : List Nat} : wipe (wipe σ vs) vs = wipe σ vs := by
  apply List.ext_getElem?
  intro j
  rw [wipe_get, wipe_length]
  by_cases hm : j ∈ vs
  · rw [if_pos hm, wipe_get, if_pos hm]
  · rw [if_neg hm]
/-- a target that stores into the block's own names alone -/
def Own (vs : List Nat) (t : TG) : Prop := ∀ v σ σ0 H (Q : L2.St → Hp → Prop), wipe σ vs = wipe σ0 vs → t v σ H Q → t v σ H fun σ2 H2 => wipe σ2 vs = wipe σ0 vs ∧ Q σ2 H2
def Owns (vs : List Nat) (t : TGs) : Prop := ∀ v σ σ0 H (Q : L2.St → Hp → Prop), wipe σ vs = wipe σ0 vs → t v σ H Q → t v σ H fun σ2 H2 => wipe σ2 vs = wipe σ0 vs ∧ Q σ2 H2
theorem own_name {vs : List Nat} {i : Nat} (h : i ∈ vs) : Own vs (gName i) := fun v σ σ0 H Q e q => ⟨(wipe_set h).trans e, q⟩
theorem owns_nil {vs : List Nat} : Owns vs gNil := fun v σ σ0 H Q e q => ⟨q.1, e, q.2⟩
theorem owns_cons {vs : List Nat} {t : TG} {u : TGs} (a : Own vs t) (mt : ∀ v σ H (Q Q' : L2.St → Hp → Prop), (∀ σ' H', Q σ' H' → Q' σ' H') → t v σ H Q → t v σ H Q') (b : Owns vs u) : Owns vs (gCons t u) := fun v σ σ0 H Q e ⟨x, r, e1, q⟩ =>
  ⟨x, r, e1, mt _ _ _ _ _ (fun σ' H' z => b r σ' σ0 H' Q z.1 z.2) (a x σ σ0 H _ e q)⟩
theorem own_tup {K : PySem.W.Frag} {vs : List Nat} {n : Nat} {u : TGs} (b : Owns vs u) : Own vs (gTup K n u) := fun v σ σ0 H Q e ⟨a, xs, h1, h2, h3, q⟩ => ⟨a, xs, h1, h2, h3, b xs σ σ0 H Q e q⟩
theorem mono_name {i : Nat} : ∀ v σ H (Q Q' : L2.St → Hp → Prop), (∀ σ' H', Q σ' H' → Q' σ' H') → gName i v σ H Q → gName i v σ H Q' := fun _ _ _ _ _ h q => h _ _ q

def loopL (src : Src) (g : FG) (ft : FT) (fe : FE) (vs : List Nat) (D : Nat) (E0 : EE) (k : SS → Bool) : Nat → Nat → SS → Bool
  | 0, _, _ => false
  | m + 1, i, S => match itemAt src S i with
    | some (some w) => g w (wipeE E0 vs) S fun E2 S2 => ft E2 S2 fun b S3 => match b with
      | true => fe E2 S3 fun y S4 => match getS S4 D with
        | some (.lst acc) => Nat.blt (lenR acc) 16777216 && loopL src g ft fe vs D E0 k m (i + 1) (setS S4 D (.lst (appR acc [y])))
        | _ => false
      | false => loopL src g ft fe vs D E0 k m (i + 1) S3
    | some none => k S
    | none => false
def fLc (fuel : Nat) (fi : FI) (g : FG) (ft : FT) (fe : FE) (vs : List Nat) : FE := fun E S k => fi E S fun src S1 => loopL src g ft fe vs (lenR S1) E (fun S2 => k (.ref (lenR S1)) S2) fuel 0 (pushS S1 (OB.lst []))
theorem sat_lc {fuel : Nat} {fi : FI} {g : FG} {ft : FT} {fe : FE} {vs : List Nat} {wi : TI} {tg : TG} {tt : TT} {te : TE} (hi : SatI cl fi wi) (hg : SatG cl g tg) (ho : Own vs tg) (ht : SatT cl ft tt) (he : SatE cl fe te) :
    SatE cl (fLc fuel fi g ft fe vs) (tLc wi tg tt te vs) := fun ρ E S σ H k Q re Dn h L =>
  hi ρ E S σ H _ _ re Dn h fun src S1 ρ1 J H1 h1 p1 D1 sj => fun D hD => by
    have nD := D1.new (o := .lst []) (u := .lst []) hD ⟨[], rfl, .nil⟩
    have aD := new_at D1 (p := D)
    refine ⟨fun i m H => ∃ ρ' S, (ρ1 ++ [D]) <+: ρ' ∧ Den cl ρ' S H ∧ loopL src g ft fe vs (lenR S1) E (fun S2 => k (.ref (lenR S1)) S2) m i S = true, ⟨fuel, ρ1 ++ [D], _, pre_refl, nD, h1⟩, ?_⟩
    rintro i m H ⟨ρ', S', p', D', h'⟩
    have pr : ρ1 <+: ρ' := pre_app.trans p'
    cases m with
    | zero => exact ff h'
    | succ m =>
      have q := sj ρ' S' H i pr D'
      unfold loopL at h'
      split at h'
      · rename_i w e
        rw [e] at q
        refine .inr ⟨q.1, fun H' => ∃ ρ2 S2, (ρ1 ++ [D]) <+: ρ2 ∧ Den cl ρ2 S2 H' ∧ loopL src g ft fe vs (lenR S1) E (fun S2 => k (.ref (lenR S1)) S2) m (i + 1) S2 = true, fun H' z => ⟨m, Nat.lt_succ_self m, z⟩, fun x H' y => ?_⟩
        obtain ⟨e1, rx⟩ := q.2 x H' y
        subst e1
        have re' := RelE.wipe (RelE.mono (p1.trans pr) re) vs
        refine ho x (wipe σ vs) σ H' _ wipe_wipe (hg ρ' (wipeE E vs) S' (wipe σ vs) H' w x _ _ re' D' rx h' fun E2 S2 ρ2 σ2 H2 h2 p2 D2 re2 => ht ρ2 E2 S2 σ2 H2 _ _ re2 D2 h2 fun b S3 ρ3 b' H3 h3 p3 D3 eb => ?_)
        subst eb
        cases b with
        | false =>
          rw [if_neg (by decide)]
          exact ⟨ρ3, S3, p'.trans (p2.trans p3), D3, h3⟩
        | true =>
          rw [if_pos rfl]
          refine he ρ3 E2 S3 σ2 H3 _ _ (RelE.mono p3 re2) D3 h3 fun y' S4 ρ4 v4 H4 h4 p4 D4 r4 => ?_
          split at h4
          · rename_i acc ea
            have pp := p'.trans (p2.trans (p3.trans p4))
            obtain ⟨a, u, z1, z2, us, rfl, z3⟩ := D4.get ea
            have z4 : ρ4[lenR S1]? = some D := get_app pp aD
            rw [z4] at z1; cases z1
            refine ⟨us, z2, ?_, ρ4, _, pp, D4.set (o := .lst (appR acc [y'])) z4 ⟨_, rfl, by rw [appR_eq]; exact Paired.app z3 (.cons r4 .nil)⟩, (band h4).2⟩
            rw [RelWs.len z3, sizeLine_eq, ← lenR_eq]
            exact PySem.W.Z.blt_iff.mp (band h4).1
          · exact ff h4
      · rename_i e
        rw [e] at q
        exact .inl ⟨q, L _ _ _ _ _ h' (p1.trans pr) D' ⟨D, get_app p' aD, rfl⟩⟩
      · exact ff h'
theorem sat_tests_nil : SatT cl (fun _ S k => k true S) tYes := fun ρ E S σ H k Q re D h L => L _ _ _ _ _ h pre_refl D rfl

/-! ### a def -/
def endK (k : KW) : KS := ⟨fun _ S => k .non S, k, fun _ _ => false, fun _ _ => false⟩
def spF (adr : Nat → Addr) (np nl : Nat) (f : FS) : Sp := fun vs H Q _ => ∃ (sh : Nat) (ρ : List Addr) (S : SS) (ws : List W) (k : KW), ws.length = np ∧ RelWs ⟨adr, sh⟩ ρ ws vs ∧ Den ⟨adr, sh⟩ ρ S H ∧ f (endK k) (ws.map some ++ List.replicate nl none) S = true ∧ LinkE ⟨adr, sh⟩ ρ k Q
theorem spF_len {adr : Nat → Addr} {np nl : Nat} {f : FS} {vs : List V} {H : Hp} {Q : VK} {E : XK} (h : spF adr np nl f vs H Q E) : vs.length = np := by
  obtain ⟨sh, ρ, S, ws, k, h1, h2, _⟩ := h
  rw [RelWs.len h2, h1]
theorem relE_start {ρ : List Addr} : ∀ {ws : List W} {vs : List V} (n : Nat), RelWs cl ρ ws vs → RelE cl ρ (ws.map some ++ List.replicate n none) (vs.map some ++ List.replicate n none)
  | _, _, 0, .nil => .nil
  | _, _, n + 1, .nil => .cons (fun _ e => nomatch e) (relE_start n .nil)
  | _, _, n, .cons r t => .cons (fun w e => by cases e; exact ⟨_, rfl, r⟩) (relE_start n t)
theorem spF_run {adr : Nat → Addr} {np nl : Nat} {f : FS} {t : TS} {N : List Str} (hN : N.length = np + nl) (hs : ∀ sh, SatS ⟨adr, sh⟩ f t) {vs : List V} {H : Hp} {Q : VK} {E : XK} (h : spF adr np nl f vs H Q E) :
    t { nx := fun _ H' => Q .non H', rt := Q } (L2.start N vs) H := by
  have hl := spF_len h
  obtain ⟨sh, ρ, S, ws, k, h1, h2, D, h3, L⟩ := h
  refine hs sh ρ _ S _ H (endK k) _ ?_ D h3 ⟨fun _ S' ρ' _ H' a b c d => L _ S' ρ' _ H' a b c rfl, L, fun _ _ _ _ _ a _ _ _ => ff a, fun _ _ _ _ _ a _ _ _ => ff a⟩
  unfold L2.start
  rw [hN, hl, show np + nl - np = nl by omega]
  exact relE_start nl h2
def fCall (np nl : Nat) (f : FS) (ds : List W) (fa : FA) : FE := fun E S k => fa E S fun ws S1 => Nat.beq (ws.length + ds.length) np && f (endK k) ((ws ++ ds).map some ++ List.replicate nl none) S1
theorem sat_call {np nl : Nat} {f : FS} {ds : List W} {dvs : List V} {E0' : XK} {fa : FA} {ta : TA} (hd : ∀ ρ, RelWs cl ρ ds dvs) (ha : SatA cl fa ta) : SatE cl (fCall np nl f ds fa) (tCall (spF cl.adr np nl f) dvs E0' ta) := fun ρ E S σ H k Q re D h L =>
  ha ρ E S σ H _ _ re D h fun ws S1 ρ1 vs H1 h1 p1 D1 r1 => ⟨cl.sh, ρ1, S1, ws ++ ds, k, by rw [List.length_append]; exact Nat.eq_of_beq_eq_true (band h1).1, Paired.app r1 (hd ρ1), D1, (band h1).2, L.mono p1⟩
theorem sat_call_nil {np nl : Nat} {f : FS} {E0' : XK} {fa : FA} {ta : TA} (ha : SatA cl fa ta) : SatE cl (fCall np nl f [] fa) (tCall (spF cl.adr np nl f) [] E0' ta) := sat_call (fun _ => .nil) ha
end
/-- THE RULE for a def -/
theorem fn_ok {adr : Nat → Addr} {P : Program} {w : World} {K : PySem.W.Frag} {mg : Str → Option Value} {base : Heap} {x qual : Str} {st : Stmt} {fa : Addr} {fd : FuncData} {N ps : List Str} {k np nl : Nat} {f : FS} (F : Fun K x qual st fa fd) (S : FnScope N ps (defScope st))
    (h1 : ps.length = np) (h2 : N.length = np + nl)
    (hbody : ∀ (cdv : Value) (A : Around) (outer : List Env) (s : Shared) (H : Hp) (E : XK), RoomG k (A.deeper (envOfC qual (defScope st) s.heap.objs.size fa cdv)) →
      ∃ t, PSs (cxOf CX0 P w K mg base N qual (defScope st) fa cdv A outer s H E) (defBody st) t ∧ ∀ sh, SatS ⟨adr, sh⟩ f t) : FnOkG P w K mg base CX0 (k + 1) fa fd ps (spF adr np nl f) :=
  F.okG S (fun vs H Q E h => by rw [spF_len h, h1]) fun cdv A outer s H vs Q E hr h => by
    obtain ⟨t, p, q⟩ := hbody cdv A outer s H E hr
    exact ⟨t, p, spF_run h2 q h⟩
end RI
end

set_option Elab.async false
set_option linter.all false
set_option maxRecDepth 100000
set_option maxHeartbeats 4000000
/-! RI4: own exceptions, isinstance, repr. -/
namespace L2
open PySem PySem.Spec PyProof.Rows
/-! ### repr of a list whose items are data; an item may be an empty dict -/
inductive ItD (K : PySem.W.Frag) (H : Hp) : V → PyData → Prop
  | dp {v : V} {d : PyData} : Dp K H v d → d.hasDict = false → ItD K H v d
  | de {b : Addr} : H b = some (.dK []) → ItD K H (.ref b) (.dict [])
theorem ItD.reads {X : Cx} {pins : List (Addr × Obj)} {σ : L2.St} {H : Hp} {s : Shared} (I : Inv X pins σ H s) {v : V} {d : PyData} {u : Value} (h : ItD X.K H v d) (r : RelV v u) : ∃ as, Reads s.heap u d as ∧ (d.hasDict = true → sysModules ∉ as) := by
  cases h with
  | dp hd hn =>
    obtain ⟨as, hr⟩ := Dp.reads I _ _ _ hd r
    exact ⟨as, hr, PyData.noDict_hsm hn⟩
  | de hb =>
    cases r
    obtain ⟨_, hs, vs, kv, o, es, ep, ho, hx, hd, _, hp, _⟩ := I.hok _ _ hb
    cases kv
    have he : es.toList = [] := by
      cases h : es.toList with
      | nil => rfl
      | cons a l => rw [h] at hp; cases hp
    refine ⟨_, Reads.dict ho hx.1 hd (by rw [he]; exact .nil) (by rw [he]; exact .nil), fun _ hm => ?_⟩
    simp at hm
    exact absurd hm.symm (by simpa using hs)
def rReprL (K : PySem.W.Frag) : List V → Hp → VK → Prop := fun xs H Q => ∃ a vs ds, xs = [.ref a] ∧ SqL K H a vs ∧ Paired (ItD K H) vs ds ∧ PyData.showableAll ds = true ∧ PyData.depthAll ds ≤ 40 ∧ (listText (PyData.shownAll ds)).length ≤ sizeLine ∧ Q (.str (listText (PyData.shownAll ds))) H
theorem call_reprL {X : Cx} {k : Nat} (hr : RoomG k X.A) : CallR X (.builtin "repr") (rReprL X.K) := by
  intro pins s σ H xs us Q I r h
  obtain ⟨a, vs, ds, rfl, hS, hI, h1, h3, h4, q⟩ := h
  cases r with
  | cons r0 rr =>
    cases rr
    cases r0
    obtain ⟨its, rv, ⟨o, n, ho, hc, _, hd⟩, _⟩ := I.list hS
    have key : ∀ (vs : List V) (us : List Value) (ds : List PyData), Paired (ItD X.K H) vs ds → Vals vs us → PyData.showableAll ds = true → (∀ t ∈ PyData.shownAll ds, t.length ≤ sizeLine) →
        (∃ as, ReadsAll s.heap us ds as) ∧ ∃ bs, ReadAtMost s.heap (PyData.depthAll ds) bs ∧ ReprAllK X.prog X.w bs s.heap (PyData.depthAll ds) us (PyData.shownAll ds) := by
      intro vs
      induction vs with
      | nil =>
        intro us ds p r _ _
        cases p
        cases r
        exact ⟨⟨_, .nil⟩, [], (fun _ h => nomatch h), by simp only [PyData.shownAll]; exact .nil⟩
      | cons v vs ih =>
        intro us ds p r hs hz
        cases p with
        | cons p1 p2 =>
          cases r with
          | cons r1 r2 =>
            rename_i d ds u us
            have hs' : d.showable = true ∧ PyData.showableAll ds = true := by simpa [PyData.showableAll] using hs
            obtain ⟨as, hr1, hm1⟩ := p1.reads I r1
            obtain ⟨⟨as2, hr2⟩, b2, hb2, k2⟩ := ih us ds p2 r2 hs'.2 (fun t ht => hz t (by simp only [PyData.shownAll]; exact List.mem_cons_of_mem _ ht))
            obtain ⟨b1, hb1, k1⟩ := ReprK.of_reads (prog := X.prog) (w := X.w) hr1 hs'.1 hm1 (hz _ (by simp only [PyData.shownAll]; exact List.mem_cons_self ..))
            refine ⟨⟨_, .cons hr1 hr2⟩, b1 ++ b2, ?_, ?_⟩
            · intro b hm
              simp only [PyData.depthAll]
              rcases List.mem_append.mp hm with hm | hm
              · obtain ⟨d', as', r', hd'⟩ := hb1 b hm
                exact ⟨d', as', r', Nat.le_trans hd' (Nat.le_max_left _ _)⟩
              · obtain ⟨d', as', r', hd'⟩ := hb2 b hm
                exact ⟨d', as', r', Nat.le_trans hd' (Nat.le_max_right _ _)⟩
            · simp only [PyData.depthAll, PyData.shownAll]
              exact .cons ((k1.more fun b hb => List.mem_append_left _ hb).level_le (Nat.le_max_left _ _)) (k2.more_le (fun b hb => List.mem_append_right _ hb) (Nat.le_max_right _ _))
    obtain ⟨⟨as, hR⟩, bs, hb, hk⟩ := key vs _ ds hI rv h1 (fun t ht => Nat.le_trans (listText_mem_le ht) h4)
    have hRa : Reads s.heap (.ref a) (.list ds) _ := .list ho hc hd hR
    have hna : a ∉ bs := not_mem_of_deeper hRa (by simp only [PyData.depth]; omega) hb
    have fin : ∀ h' u tk, (∀ b o, s.heap.get? b = some o → h'.get? b = some o) → EP X pins σ Q (.str (listText (PyData.shownAll ds)) u) { s with heap := h', toks := tk } := fun h' u tk kk => ⟨.str _, H, I.kept (t' := tk) kk, ⟨u, rfl⟩, q⟩
    refine call_repr_slot (by have := hr.un; omega) ⟨o, ho, hc⟩ F.slot_list_repr.toG ?_
    have hu : X.A.in1.units + (PyData.depthAll ds + 1) < cLine := by
      have := hr.un
      show X.A.units + 1 + (PyData.depthAll ds + 1) < cLine
      omega
    cases its with
    | nil =>
      have h4' : ReadsAll s.heap [] ds _ := hR
      cases h4'
      refine call_list_repr_empty ⟨o, ho, hc⟩ ho hd ?_
      refine ⟨_, _, rfl, ?_⟩
      have z := fin s.heap
      simp only [PyData.shownAll, listText_nil] at z
      exact z _ _ fun _ _ e => e
    | cons x l =>
      exact call_list_reprK ho hc hd hna (by simpa using hk.length_eq) (fun i y e => hk.item i y (by simpa using e)) hr.gd (fun b _ => Clear.nil b) (by omega) (fun _ _ z => z) (fun h' u tk kk => ⟨_, _, rfl, fin h' u tk kk⟩) h4
end L2

set_option Elab.async false
set_option linter.all false
set_option maxRecDepth 100000
set_option maxHeartbeats 4000000
set_option exponentiation.threshold 2000
/-! RI5: own exceptions, isinstance, repr, reckoned. -/
noncomputable section
namespace RI
open PySem PySem.Spec PyProof.Rows L2
/-- what the written part says of the own exception classes (by numbers) -/
structure ExF (K : PySem.W.Frag) (cl : CL) (isA : Nat → W → Option Bool) (na : Nat → Str → Bool) (nc : Nat) : Prop where
  oex : ∀ c, c < nc → OexC K (cl.adr c)
  exc : ∀ c, c < nc → ExcC K (cl.adr c)
  no : ∀ c f, na c f = true → PySem.W.findIn K (.ref (cl.adr c)) f = some none
  isa : ∀ c w b, isA c w = some b → ∃ cv, (∀ ρ v u, RelW cl ρ w v → RelV v u → u = cv) ∧ PySem.W.kitOne K (.ref (cl.adr c)) cv = some b
section
variable {cl : CL} {K : PySem.W.Frag} {isA : Nat → W → Option Bool} {na : Nat → Str → Bool} {nc : Nat}
theorem ExF.at {adr : Nat → Addr} {j : Nat} (T : ExF K ⟨adr, j⟩ isA na nc) (sh : Nat) : ExF K ⟨adr, sh⟩ isA na nc := ⟨T.oex, T.exc, T.no, fun c w b e => by
  obtain ⟨cv, h1, h2⟩ := T.isa c w b e
  refine ⟨cv, fun ρ v u r r2 => h1 ρ v u ?_ r2, h2⟩
  cases w <;> exact r⟩
theorem sat_cls {c : Nat} : SatE cl (fC (.cls c)) (tC (.ref (cl.adr c))) := sat_c fun _ => rfl
def lookS (f : Str) : List (Str × W) → Option W
  | [] => none
  | (g, w) :: l => match strEq f g with
    | true => some w
    | false => lookS f l
theorem lookS_ok {ρ : List Addr} {f : Str} : ∀ {fs : List (Str × W)} {vs : List (Str × V)} {w : W}, RelF cl ρ fs vs → lookS f fs = some w → ∃ v, vs.lookup f = some v ∧ RelW cl ρ w v
  | [], _, _, _, h => by cases h
  | (g, w') :: l, (g', v') :: m, w, .cons ⟨e, r⟩ t, h => by
    simp only at e r
    subst e
    unfold lookS at h
    split at h
    · rename_i q
      cases h
      have := strEq_iff.mp q
      subst this
      exact ⟨v', by simp [List.lookup], r⟩
    · rename_i q
      obtain ⟨v, h1, h2⟩ := lookS_ok t h
      refine ⟨v, ?_, h2⟩
      have ne : (f == g) = false := by rw [beq_str]; exact q
      simp only [List.lookup, ne]
      exact h1
/-- self.f = e, self an exception that is being made -/
def fOst (na : Nat → Str → Bool) (nc : Nat) (f : Str) (fo fe : FE) : FS := fun k E S => fe E S fun y S1 => fo E S1 fun x S2 => match x with
  | .ref a => match getS S2 a with
    | some (.exo c none) => (Nat.blt c nc && na c f) && k.nx E (setS (pushS S2 (OB.exd [(f, y)])) a (.exo c (some (lenR S2))))
    | some (.exo c (some d)) => match getS S2 d with
      | some (.exd fs) => (Nat.blt c nc && na c f && Nat.ble fs.length 900) && k.nx E (setS S2 d (.exd ((f, y) :: fs)))
      | _ => false
    | _ => false
  | _ => false
theorem RelF.len {ρ : List Addr} {fs : List (Str × W)} {vs : List (Str × V)} (r : RelF cl ρ fs vs) : vs.length = fs.length := (Paired.length r).symm
theorem sat_ost (T : ExF K cl isA na nc) {f : Str} {fo fe : FE} {to te : TE} (ho : SatE cl fo to) (he : SatE cl fe te) : SatS cl (fOst na nc f fo fe) (tOst K f to te) := fun ρ E S σ H k D re Dn h L =>
  he ρ E S σ H _ _ re Dn h fun y S1 ρ1 yv H1 h1 p1 D1 r1 => ho ρ1 E S1 σ H1 _ _ (re.mono p1) D1 h1 fun x S2 ρ2 xv H2 h2 p2 D2 r2 => by
    have r1' := r1.mono p2
    cases x with
    | ref a =>
      obtain ⟨ad, ea, rfl⟩ := r2
      dsimp only at h2
      split at h2
      · rename_i c e
        obtain ⟨h2a, h2⟩ := band h2
        simp only [Bool.and_eq_true] at h2a
        obtain ⟨a', u, z1, z2, z3⟩ := D2.get e
        rw [ea] at z1; cases z1
        have z3' : u = exo ad (cl.adr c) none := z3
        subst z3'
        refine ⟨ad, cl.adr c, rfl, T.oex c (PySem.W.Z.blt_iff.mp h2a.1), T.no c f h2a.2, .inl ⟨z2, fun dx hn hne => ?_⟩⟩
        have Dd := D2.new (o := .exd [(f, y)]) (u := exd dx [(f, yv)]) hn ⟨_, rfl, .cons ⟨rfl, r1'.mono pre_app⟩ .nil⟩
        have De := Dd.set (o := .exo c (some (lenR S2))) (u := exo ad (cl.adr c) (some dx)) (get_app pre_app ea) ⟨dx, new_at D2, rfl⟩
        exact L.nx _ _ _ _ _ h2 ((p1.trans p2).trans pre_app) De (re.mono ((p1.trans p2).trans pre_app))
      · rename_i c d e
        split at h2
        · rename_i fs e2
          obtain ⟨h2a, h2⟩ := band h2
          simp only [Bool.and_eq_true] at h2a
          obtain ⟨a', u, z1, z2, dx, z3, z4⟩ := D2.get e
          rw [ea] at z1; cases z1
          subst z4
          obtain ⟨dx', u', y1, y2, vs, y3, y4⟩ := D2.get e2
          rw [z3] at y1; cases y1
          subst y3
          refine ⟨ad, cl.adr c, rfl, T.oex c (PySem.W.Z.blt_iff.mp h2a.1.1), T.no c f h2a.1.2, .inr ⟨dx, vs, z2, y2, by rw [y4.len]; exact PySem.W.Z.ble_iff.mp h2a.2, ?_⟩⟩
          exact L.nx _ _ _ _ _ h2 (p1.trans p2) (D2.set (o := .exd ((f, y) :: fs)) z3 ⟨_, rfl, .cons ⟨rfl, r1'⟩ y4⟩) (re.mono (p1.trans p2))
        · exact ff h2
      · exact ff h2
    | _ => exact ff h2
/-- what an __init__ hands back -/
def endI (n : Nat) (k : KW) : KW := fun w S => match w with
  | .non => k (.ref n) S
  | _ => false
def fExV (c np nl : Nat) (f : FS) (ds : List W) (fa : FA) : FE := fun E S k => fa E S fun ws S1 => (Nat.ble ws.length 1000 && Nat.beq (1 + (ws.length + ds.length)) np) &&
  f (endK (endI (lenR S1) k)) ((.ref (lenR S1) :: (ws ++ ds)).map some ++ List.replicate nl none) (pushS S1 (.exo c none))
theorem link_init {ρ ρ0 : List Addr} {S1 : SS} {H1 : Hp} {k : KW} {Q : VK} {a : Addr} (D1 : Den cl ρ0 S1 H1) (p : ρ <+: ρ0) (L : LinkE cl ρ k Q) : LinkE cl (ρ0 ++ [a]) (endI (lenR S1) k) (fun v H2 => v = .non ∧ Q (.ref a) H2) := fun w S' ρ' v H' h p' D' r => by
  cases w with
  | non => exact ⟨r, L _ _ _ _ _ h (p.trans (pre_app.trans p')) D' ⟨a, get_app p' (new_at D1), rfl⟩⟩
  | _ => exact ff h
theorem sat_exv {c np nl : Nat} {f : FS} {ds : List W} {dvs : List V} {fa : FA} {ta : TA} (hd : ∀ ρ, RelWs cl ρ ds dvs) (ha : SatA cl fa ta) : SatE cl (fExV c np nl f ds fa) (tExV (cl.adr c) (spF cl.adr np nl f) dvs ta) := fun ρ E S σ H k Q re D h L =>
  ha ρ E S σ H _ _ re D h fun ws S1 ρ1 vs H1 h1 p1 D1 r1 => by
    obtain ⟨h1a, h1⟩ := band h1
    rw [Bool.and_eq_true] at h1a
    refine ⟨by rw [RelWs.len r1]; exact PySem.W.Z.ble_iff.mp h1a.1, fun a hn => ⟨cl.sh, ρ1 ++ [a], _, .ref (lenR S1) :: (ws ++ ds), endI (lenR S1) k, ?_, .cons ⟨a, new_at D1, rfl⟩ (RelWs.mono pre_app (Paired.app r1 (hd ρ1))), D1.new (o := .exo c none) hn rfl, h1, link_init D1 p1 L⟩⟩
    have := Nat.eq_of_beq_eq_true h1a.2
    simp only [List.length_cons, List.length_append]
    omega
def fExK (c np nl m : Nat) (f : FS) (pm : List W → List W → List W) (fk : FA) : FE := fun E S k => fk E S fun zs S1 => (Nat.beq zs.length m && Nat.beq (pm [.ref (lenR S1)] zs).length np) &&
  f (endK (endI (lenR S1) k)) ((pm [.ref (lenR S1)] zs).map some ++ List.replicate nl none) (pushS S1 (.exo c none))
theorem sat_exk {c np nl m : Nat} {f : FS} {pm : List W → List W → List W} {gV : List V → List V → List V} {fk : FA} {tk : TA} (hp : ∀ ρ us vs zs ws, RelWs cl ρ us vs → RelWs cl ρ zs ws → RelWs cl ρ (pm us zs) (gV vs ws)) (ha : SatA cl fk tk) :
    SatE cl (fExK c np nl m f pm fk) (tExK (cl.adr c) (spF cl.adr np nl f) m gV tk) := fun ρ E S σ H k Q re D h L =>
  ha ρ E S σ H _ _ re D h fun ws S1 ρ1 vs H1 h1 p1 D1 r1 => by
    obtain ⟨h1a, h1⟩ := band h1
    rw [Bool.and_eq_true] at h1a
    refine ⟨by rw [RelWs.len r1]; exact Nat.eq_of_beq_eq_true h1a.1, fun a hn => ⟨cl.sh, ρ1 ++ [a], _, pm [.ref (lenR S1)] ws, endI (lenR S1) k, Nat.eq_of_beq_eq_true h1a.2, hp _ _ _ _ _ (.cons ⟨a, new_at D1, rfl⟩ .nil) (RelWs.mono pre_app r1), D1.new (o := .exo c none) hn rfl, h1, link_init D1 p1 L⟩⟩
def fEx0 (c : Nat) (fa : FA) : FE := fun E S k => fa E S fun _ S1 => k (.ref (lenR S1)) (pushS S1 (.exo c none))
theorem sat_ex0 {c : Nat} {fa : FA} {ta : TA} (ha : SatA cl fa ta) : SatE cl (fEx0 c fa) (tEx0 (cl.adr c) ta) := fun ρ E S σ H k Q re D h L =>
  ha ρ E S σ H _ _ re D h fun ws S1 ρ1 vs H1 h1 p1 D1 r1 => fun a hn => L _ _ _ _ _ h1 (p1.trans pre_app) (D1.new (o := .exo c none) hn rfl) ⟨a, new_at D1, rfl⟩
/-- e.f -/
def fExF (na : Nat → Str → Bool) (nc : Nat) (f : Str) (fe : FE) : FE := fun E S k => fe E S fun x S1 => match x with
  | .ref p => match getS S1 p with
    | some (.exo c (some d)) => match getS S1 d with
      | some (.exd fs) => match lookS f fs with
        | some w => (Nat.blt c nc && na c f) && k w S1
        | none => false
      | _ => false
    | _ => false
  | _ => false
theorem sat_exf (T : ExF K cl isA na nc) {f : Str} {fe : FE} {te : TE} (he : SatE cl fe te) : SatE cl (fExF na nc f fe) (tExF K f te) := fun ρ E S σ H k Q re D h L =>
  he ρ E S σ H _ _ re D h fun x S1 ρ1 xv H1 h1 p1 D1 r1 => by
    cases x with
    | ref p =>
      obtain ⟨ad, ea, rfl⟩ := r1
      simp only at h1
      split at h1
      · rename_i c d e
        split at h1
        · rename_i fs e2
          split at h1
          · rename_i w e3
            obtain ⟨h1a, h1⟩ := band h1
            rw [Bool.and_eq_true] at h1a
            obtain ⟨a', u, z1, z2, dx, z3, z4⟩ := D1.get e
            rw [ea] at z1; cases z1
            subst z4
            obtain ⟨dx', u', y1, y2, vs, y3, y4⟩ := D1.get e2
            rw [z3] at y1; cases y1
            subst y3
            obtain ⟨v, l1, l2⟩ := lookS_ok y4 e3
            exact ⟨ad, cl.adr c, dx, vs, v, rfl, z2, y2, l1, T.exc c (PySem.W.Z.blt_iff.mp h1a.1), T.no c f h1a.2, L _ _ _ _ _ h1 p1 D1 l2⟩
          · exact ff h1
        · exact ff h1
      · exact ff h1
    | _ => exact ff h1
/-- isinstance(e, c) -/
def gIsX (isA : Nat → W → Option Bool) (nc : Nat) : List W → SS → KW → Bool := fun xs S k => match xs with
  | [.ref p, w] => match getS S p with
    | some (.exo c none) => match isA c w with
      | some b => Nat.blt c nc && k (.bl b) S
      | none => false
    | some (.exo c (some d)) => match getS S d with
      | some (.exd _) => match isA c w with
        | some b => Nat.blt c nc && k (.bl b) S
        | none => false
      | _ => false
    | _ => false
  | _ => false
theorem relV_ex (v : V) : ∃ u, RelV v u := by
  cases v with
  | non => exact ⟨_, rfl⟩
  | bl b => exact ⟨_, rfl⟩
  | int i => exact ⟨_, 0, rfl⟩
  | str x => exact ⟨_, 0, rfl⟩
  | byt b => exact ⟨_, 0, rfl⟩
  | flt b => exact ⟨_, 0, rfl⟩
  | ref a => exact ⟨_, rfl⟩
  | ty n => exact ⟨_, rfl⟩
theorem sat_isx (T : ExF K cl isA na nc) : SatC cl (gIsX isA nc) (rIsX K) := fun ρ S H xs vs k Q D r h L => by
  unfold gIsX at h
  split at h
  · rename_i p w
    cases r with
    | cons r0 rr =>
      cases rr with
      | cons r1 rr =>
        cases rr
        obtain ⟨ad, ea, rfl⟩ := r0
        split at h
        · rename_i c e
          split at h
          · rename_i b eb
            obtain ⟨cv, h1, h2⟩ := T.isa c w b eb
            obtain ⟨a', u, z1, z2, z3⟩ := D.get e
            rw [ea] at z1; cases z1
            have z3' : u = exo ad (cl.adr c) none := z3
            subst z3'
            exact ⟨ad, cl.adr c, none, _, cv, b, rfl, z2, (fun dx q => nomatch q), T.exc c (PySem.W.Z.blt_iff.mp (band h).1), fun u hu => h1 ρ _ u r1 hu, h2, L _ _ _ _ _ (band h).2 pre_refl D rfl⟩
          · exact ff h
        · rename_i c d e
          split at h
          · rename_i fs e2
            split at h
            · rename_i b eb
              obtain ⟨cv, h1, h2⟩ := T.isa c w b eb
              obtain ⟨a', u, z1, z2, dx, z3, z4⟩ := D.get e
              rw [ea] at z1; cases z1
              subst z4
              obtain ⟨dx', u', y1, y2, vs, y3, y4⟩ := D.get e2
              rw [z3] at y1; cases y1
              subst y3
              exact ⟨ad, cl.adr c, some dx, _, cv, b, rfl, z2, fun dx' q => by cases q; exact ⟨vs, y2⟩, T.exc c (PySem.W.Z.blt_iff.mp (band h).1), fun u hu => h1 ρ _ u r1 hu, h2, L _ _ _ _ _ (band h).2 pre_refl D rfl⟩
            · exact ff h
          · exact ff h
        · exact ff h
  · exact ff h
/-! ### data -/
def optAll {α β : Type} (f : α → Option β) : List α → Option (List β)
  | [] => some []
  | x :: l => match f x with
    | some y => match optAll f l with
      | some r => some (y :: r)
      | none => none
    | none => none
def dataW : Nat → SS → W → Option PyData
  | 0, _, _ => none
  | n + 1, S, w => match w with
    | .non => some .none
    | .bl b => some (.bool b)
    | .int i => some (.int i)
    | .str x => some (.str x)
    | .ref p => match getS S p with
      | some (.lst xs) => match optAll (dataW n S) xs with
        | some ds => some (.list ds)
        | none => none
      | some (.tup xs) => match optAll (dataW n S) xs with
        | some ds => some (.tuple ds)
        | none => none
      | _ => none
    | _ => none
theorem dataW_ok {ρ : List Addr} {S : SS} {H : Hp} (D : Den cl ρ S H) : ∀ (n : Nat) {w : W} {v : V} {d : PyData}, dataW n S w = some d → RelW cl ρ w v → Dp K H v d ∧ d.hasDict = false
  | 0, _, _, _, h, _ => by cases h
  | n + 1, w, v, d, h, r => by
    have all : ∀ {xs : List W} {vs : List V} {ds : List PyData}, optAll (dataW n S) xs = some ds → RelWs cl ρ xs vs → DpAll K H vs ds ∧ PyData.hasDictAll ds = false := by
      intro xs
      induction xs with
      | nil =>
        intro vs ds h r
        cases h
        cases r
        exact ⟨.nil, by simp only [PyData.hasDictAll]⟩
      | cons x xs ih =>
        intro vs ds h r
        cases r with
        | cons r1 r2 =>
          unfold optAll at h
          split at h
          · rename_i y e
            split at h
            · rename_i rs e2
              cases h
              obtain ⟨a1, a2⟩ := dataW_ok D n e r1
              obtain ⟨b1, b2⟩ := ih e2 r2
              exact ⟨.cons a1 b1, by simp only [PyData.hasDictAll, a2, b2, Bool.or_self]⟩
            · cases h
          · cases h
    unfold dataW at h
    split at h
    · cases h; cases r; exact ⟨.non, by simp only [PyData.hasDict]⟩
    · cases h; cases r; exact ⟨.bl _, by simp only [PyData.hasDict]⟩
    · cases h; cases r; exact ⟨.int _, by simp only [PyData.hasDict]⟩
    · cases h; cases r; exact ⟨.str _, by simp only [PyData.hasDict]⟩
    · rename_i p
      obtain ⟨a, ea, rfl⟩ := r
      split at h
      · rename_i xs e
        split at h
        · rename_i ds e2
          cases h
          obtain ⟨a', u, z1, z2, vs, rfl, z3⟩ := D.get e
          rw [ea] at z1; cases z1
          obtain ⟨q1, q2⟩ := all e2 z3
          exact ⟨.lst (.inl (.inl z2)) q1, by simp only [PyData.hasDict, q2]⟩
        · cases h
      · rename_i xs e
        split at h
        · rename_i ds e2
          cases h
          obtain ⟨a', u, z1, z2, vs, rfl, z3⟩ := D.get e
          rw [ea] at z1; cases z1
          obtain ⟨q1, q2⟩ := all e2 z3
          exact ⟨.tup (.inl (.inl z2)) q1, by simp only [PyData.hasDict, q2]⟩
        · cases h
      · cases h
    · cases h
def itemW (S : SS) (w : W) : Option PyData := match w with
  | .ref p => match getS S p with
    | some (.dK []) => some (.dict [])
    | _ => dataW 30 S w
  | _ => dataW 30 S w
theorem itemW_ok {ρ : List Addr} {S : SS} {H : Hp} (D : Den cl ρ S H) {w : W} {v : V} {d : PyData} (h : itemW S w = some d) (r : RelW cl ρ w v) : ItD K H v d := by
  have dflt : dataW 30 S w = some d → ItD K H v d := fun e => let ⟨a, b⟩ := dataW_ok (K := K) D 30 e r; .dp a b
  unfold itemW at h
  split at h
  · rename_i p
    split at h
    · rename_i e
      cases h
      obtain ⟨a, u, z1, z2, vs, rfl, z3⟩ := D.get e
      obtain ⟨a', y1, rfl⟩ := r
      rw [z1] at y1; cases y1
      cases z3
      exact .de z2
    · exact dflt h
  · exact dflt h
theorem itemsW_ok {ρ : List Addr} {S : SS} {H : Hp} (D : Den cl ρ S H) : ∀ {xs : List W} {vs : List V} {ds : List PyData}, optAll (itemW S) xs = some ds → RelWs cl ρ xs vs → Paired (ItD K H) vs ds
  | [], _, _, h, r => by cases h; cases r; exact .nil
  | x :: xs, _, _, h, r => by
    cases r with
    | cons r1 r2 =>
      unfold optAll at h
      split at h
      · rename_i y e
        split at h
        · rename_i rs e2
          cases h
          exact .cons (itemW_ok D e r1) (itemsW_ok D e2 r2)
        · cases h
      · cases h
mutual
def pdOk : PyData → Bool
  | .none | .bool _ => true
  | .int i => Nat.blt i.natAbs (10 ^ 200)
  | .str x => x.cps.toList.all fun c => Nat.blt c 4294967296
  | .list xs | .tuple xs => pdsOk xs
  | .dict [] => true
  | .dict _ => false
def pdsOk : List PyData → Bool
  | [] => true
  | x :: xs => pdOk x && pdsOk xs
end
theorem log_small {n : Nat} (h : n < 10 ^ 200) : n.log2 < 1920 := by
  by_cases h0 : n = 0
  · subst h0; decide
  · have : n < 2 ^ 665 := Nat.lt_of_lt_of_le h (by decide)
    have := (Nat.log2_lt h0).mpr this
    omega
mutual
theorem pdOk_ok : ∀ d : PyData, pdOk d = true → d.leavesShort 201 = true ∧ d.showable = true
  | .none, _ => ⟨by simp only [PyData.leavesShort], by simp only [PyData.showable]⟩
  | .bool _, _ => ⟨by simp only [PyData.leavesShort], by simp only [PyData.showable]⟩
  | .int i, h => by
    have h' : i.natAbs < 10 ^ 200 := PySem.W.Z.blt_iff.mp (by simpa only [pdOk] using h)
    refine ⟨?_, by simp only [PyData.showable]; exact decide_eq_true (log_small h')⟩
    simp only [PyData.leavesShort]
    apply decide_eq_true
    have e := int_text_length_le10 (k := 200) (by decide) h'
    show (Str.ofString (toString i)).length ≤ 201
    first | (rw [PySem.ofString_length]; exact e) | (rw [PyProof.Rows.ofString_length]; exact e) | (rw [PySem.PyData.ofString_length]; exact e)
  | .str x, h => by
    refine ⟨?_, by simp only [PyData.showable]⟩
    simp only [PyData.leavesShort]
    simp only [pdOk, List.all_eq_true] at h ⊢
    intro c hc
    exact decide_eq_true (Nat.lt_of_lt_of_le (PySem.W.Z.blt_iff.mp (h c hc)) (by decide))
  | .list xs, h => by
    have := pdsOk_ok xs (by simpa only [pdOk] using h)
    exact ⟨by simp only [PyData.leavesShort]; exact this.1, by simp only [PyData.showable]; exact this.2⟩
  | .tuple xs, h => by
    have := pdsOk_ok xs (by simpa only [pdOk] using h)
    exact ⟨by simp only [PyData.leavesShort]; exact this.1, by simp only [PyData.showable]; exact this.2⟩
  | .dict [], _ => ⟨by simp only [PyData.leavesShort, PyData.leavesShortKv], by simp only [PyData.showable, PyData.showableKv]⟩
  | .dict (_ :: _), h => by simp [pdOk] at h
theorem pdsOk_ok : ∀ ds : List PyData, pdsOk ds = true → PyData.leavesShortAll 201 ds = true ∧ PyData.showableAll ds = true
  | [], _ => ⟨by simp only [PyData.leavesShortAll], by simp only [PyData.showableAll]⟩
  | x :: xs, h => by
    have h' : pdOk x = true ∧ pdsOk xs = true := by simpa [pdsOk] using h
    obtain ⟨a1, a2⟩ := pdOk_ok x h'.1
    obtain ⟨b1, b2⟩ := pdsOk_ok xs h'.2
    exact ⟨by simp only [PyData.leavesShortAll, a1, b1, Bool.and_self], by simp only [PyData.showableAll, a2, b2, Bool.and_self]⟩
end
theorem shown_small {ds : List PyData} (h : pdsOk ds = true) (hw : PyData.weightAll ds ≤ 50000) : (listText (PyData.shownAll ds)).length ≤ sizeLine := by
  have h1 := PyData.shown_le 201 (by decide) (.list ds) (by simp only [PyData.leavesShort]; exact (pdsOk_ok ds h).1)
  simp only [PyData.shown, PyData.weight] at h1
  rw [sizeLine_eq]
  omega
def gRepr : List W → SS → KW → Bool := fun xs S k => match xs with
  | [.ref p] => match getS S p with
    | some (.lst ws) => match optAll (itemW S) ws with
      | some ds => (pdsOk ds && Nat.ble (PyData.weightAll ds) 50000 && Nat.ble (PyData.depthAll ds) 40) && k (.shown ds) S
      | none => false
    | _ => false
  | _ => false
theorem sat_repr : SatC cl gRepr (rReprL K) := fun ρ S H xs vs k Q D r h L => by
  unfold gRepr at h
  split at h
  · rename_i p
    split at h
    · rename_i ws e
      split at h
      · rename_i ds e2
        obtain ⟨ha, h⟩ := band h
        simp only [Bool.and_eq_true] at ha
        cases r with
        | cons r0 rr =>
          cases rr
          obtain ⟨a, ea, rfl⟩ := r0
          obtain ⟨a', u, z1, z2, us, rfl, z3⟩ := D.get e
          rw [ea] at z1; cases z1
          exact ⟨a, us, ds, rfl, .inl (.inl z2), itemsW_ok D e2 z3, (pdsOk_ok ds ha.1.1).2, PySem.W.Z.ble_iff.mp ha.2, shown_small ha.1.1 (PySem.W.Z.ble_iff.mp ha.1.2), L _ _ _ _ _ h pre_refl D rfl⟩
      · exact ff h
    · exact ff h
  · exact ff h
/-! ### == and != of data -/
mutual
def pdEq : PyData → PyData → Bool
  | .none, .none => true
  | .bool a, .bool b => bEq a b
  | .int a, .int b => intEq a b
  | .str a, .str b => strEq a b
  | .list a, .list b => pdsEq a b
  | .tuple a, .tuple b => pdsEq a b
  | .dict a, .dict b => a.isEmpty && b.isEmpty
  | _, _ => false
def pdsEq : List PyData → List PyData → Bool
  | [], [] => true
  | x :: xs, y :: ys => pdEq x y && pdsEq xs ys
  | _, _ => false
end
mutual
theorem pdEq_ok : ∀ a b : PyData, pdEq a b = true → a = b
  | .none, b, h => by cases b <;> simp [pdEq] at h <;> rfl
  | .bool x, b, h => by
    cases b <;> simp [pdEq] at h
    rename_i y
    cases x <;> cases y <;> first | rfl | cases h
  | .int x, b, h => by
    cases b <;> simp [pdEq] at h
    exact congrArg _ ((PySem.W.Z.eqB_iff _ _).mp h)
  | .str x, b, h => by
    cases b <;> simp [pdEq] at h
    exact congrArg _ (strEq_iff.mp h)
  | .list x, b, h => by
    cases b <;> simp [pdEq] at h
    exact congrArg _ (pdsEq_ok _ _ h)
  | .tuple x, b, h => by
    cases b <;> simp [pdEq] at h
    exact congrArg _ (pdsEq_ok _ _ h)
  | .dict l, b, h => by
    cases b with
    | dict m =>
      have h' : (l.isEmpty && m.isEmpty) = true := by simpa only [pdEq] using h
      rw [Bool.and_eq_true] at h'
      have a := List.isEmpty_iff.mp h'.1
      have b := List.isEmpty_iff.mp h'.2
      rw [a, b]
    | _ => simp [pdEq] at h
theorem pdsEq_ok : ∀ a b : List PyData, pdsEq a b = true → a = b
  | [], b, h => by cases b <;> simp [pdsEq] at h <;> rfl
  | x :: xs, b, h => by
    cases b with
    | nil => simp [pdsEq] at h
    | cons y ys =>
      simp [pdsEq] at h
      rw [pdEq_ok _ _ h.1, pdsEq_ok _ _ h.2]
end
end
end RI
end

set_option Elab.async false
set_option linter.all false
set_option maxRecDepth 100000
set_option maxHeartbeats 4000000
/-! RI6: == of shown texts and of data, draws, loops whose turns leave nothing behind. -/
noncomputable section
namespace RI
open PySem PySem.Spec PyProof.Rows L2
section
variable {cl : CL} {K : PySem.W.Frag}
/-! ### comparisons -/
def gEqX (neg : Bool) : W → W → SS → KW → Bool := fun x y S k => match x with
  | .shown a => match y with
    | .shown b => pdsEq a b && k (.bl (!neg)) S
    | _ => false
  | _ => gEq neg x y S k
theorem sat_eqX : SatO cl (gEqX true) rNe := fun ρ S H x y v u k Q D rx ry h L => by
  have dflt : gEq true x y S k = true → rNe v u H Q := fun h => sat_ne ρ S H x y v u k Q D rx ry h L
  cases x with
  | shown a =>
    cases y with
    | shown b =>
      obtain ⟨h1, h2⟩ := band h
      have e := pdsEq_ok _ _ h1
      subst e
      have e1 : v = V.str (listText (PyData.shownAll a)) := rx
      have e2 : u = V.str (listText (PyData.shownAll a)) := ry
      subst e1
      subst e2
      refine ⟨rfl, L _ _ _ _ _ h2 pre_refl D ?_⟩
      show V.bl _ = V.bl _
      simp
    | _ => exact ff h
  | _ => exact dflt h
def gEqD (neg : Bool) : W → W → SS → KW → Bool := fun x y S k => match dataW 30 S x with
  | some d => match dataW 30 S y with
    | some e => match pdEq d e with
      | true => SeqAt.shaped d && k (.bl (!neg)) S
      | false => (SeqAt.shaped d && SeqAt.shaped e) && k (.bl (xor neg (PyData.eqv d e))) S
    | none => false
  | none => false
theorem gEqD_ok {neg : Bool} {ρ : List Addr} {S : SS} {H : Hp} {x y : W} {v u : V} {k : KW} {Q : VK} (D : Den cl ρ S H) (rx : RelW cl ρ x v) (ry : RelW cl ρ y u) (h : gEqD neg x y S k = true) (L : LinkE cl ρ k Q) :
    ∃ d e : PyData, Dp K H v d ∧ Dp K H u e ∧ SeqAt.shaped d = true ∧ SeqAt.shaped e = true ∧ Q (.bl (xor neg (PyData.eqv d e))) H := by
  unfold gEqD at h
  split at h
  · rename_i d e1
    split at h
    · rename_i e e2
      split at h
      · rename_i q
        have q' := pdEq_ok _ _ q
        subst q'
        obtain ⟨h1, h2⟩ := band h
        refine ⟨d, d, (dataW_ok D 30 e1 rx).1, (dataW_ok D 30 e2 ry).1, h1, h1, L _ _ _ _ _ h2 pre_refl D ?_⟩
        show V.bl _ = V.bl _
        rw [SeqAt.eqv_refl d (SeqAt.canLay_of_shaped h1)]
        cases neg <;> rfl
      · obtain ⟨h1, h2⟩ := band h
        rw [Bool.and_eq_true] at h1
        exact ⟨d, e, (dataW_ok D 30 e1 rx).1, (dataW_ok D 30 e2 ry).1, h1.1, h1.2, L _ _ _ _ _ h2 pre_refl D rfl⟩
    · exact ff h
  · exact ff h
theorem sat_neD : SatO cl (gEqD true) (rNeD K) := fun ρ S H x y v u k Q D rx ry h L => by
  obtain ⟨d, e, h1, h2, h3, h4, h5⟩ := gEqD_ok (K := K) D rx ry h L
  refine ⟨d, e, h1, h2, h3, h4, ?_⟩
  have z : xor true (PyData.eqv d e) = !PyData.eqv d e := by cases PyData.eqv d e <;> rfl
  rw [z] at h5
  exact h5
theorem sat_eqD : SatO cl (gEqD false) (rEqD K) := fun ρ S H x y v u k Q D rx ry h L => by
  obtain ⟨d, e, h1, h2, h3, h4, h5⟩ := gEqD_ok (K := K) D rx ry h L
  refine ⟨d, e, h1, h2, h3, h4, ?_⟩
  have z : xor false (PyData.eqv d e) = PyData.eqv d e := by cases PyData.eqv d e <;> rfl
  rw [z] at h5
  exact h5
/-! ### a draw out of a list -/
def allB (f : W → Bool) : List W → Bool
  | [] => true
  | w :: l => f w && allB f l
theorem allB_get {f : W → Bool} : ∀ {xs : List W} {i : Nat} {w : W}, allB f xs = true → xs[i]? = some w → f w = true
  | [], _, _, _, h => by simp at h
  | x :: xs, 0, w, h, e => by simp at e; subst e; exact (band h).1
  | x :: xs, i + 1, w, h, e => allB_get (band h).2 (by simpa using e)
def drawLine : Nat := 9000000
/-- draw(pen, many): pen holds the cells, the next one's place, the rest of a great one -/
def spDraw (_ : Unit) : Sp := fun vs H Q _ => ∃ (p lq : Addr) (i g n : Int) (ns : List Int), vs = [.ref p, .int n] ∧ H p = some (.lst [.ref lq, .int i, .int g]) ∧ H lq = some (.lst (ns.map V.int)) ∧ ns.length ≤ 63 ∧ 0 ≤ i ∧ i < 9000000 ∧ 0 ≤ g ∧ 1 ≤ n ∧ n < 2 ^ 9000 ∧
  ∀ (d i' g' : Int) (H' : Hp), 0 ≤ d → d < n → i ≤ i' → i' ≤ i + 1 → 0 ≤ g' → (∀ b o, upd H p (.lst [.ref lq, .int i', .int g']) b = some o → H' b = some o) → Q (.int d) H'
theorem Den.same {cl : CL} {ρ : List Addr} {S : SS} {H H' : Hp} (D : Den cl ρ S H) (h : ∀ b o, H b = some o → H' b = some o) : Den cl ρ S H' := ⟨D.len, D.nd, fun k o a h1 h2 => let ⟨u, e, r⟩ := D.at' k o a h1 h2; ⟨u, h _ _ e, r⟩⟩
/-- pick(pen, some) -/
def spPick (adr : Nat → Addr) : Sp := fun vs H Q _ => ∃ (sh : Nat) (ρ : List Addr) (S : SS) (p q b x : Nat) (xs : List W) (k : KW), RelWs ⟨adr, sh⟩ ρ [.ref p, .ref x] vs ∧ Den ⟨adr, sh⟩ ρ S H ∧ getS S p = some (.pen q b) ∧ getS S q = some .cells ∧ seqAt S x = some xs ∧
  0 < xs.length ∧ xs.length < 100000 ∧ b < drawLine ∧ allB (fun w => k w (setS S p (.pen q (b + 1)))) xs = true ∧ LinkE ⟨adr, sh⟩ ρ k Q
def gPick : List W → SS → KW → Bool := fun ws S k => match ws with
  | [.ref p, .ref x] => match getS S p with
    | some (.pen q b) => match getS S q with
      | some .cells => match seqAt S x with
        | some xs => (Nat.blt 0 xs.length && Nat.blt xs.length 100000 && Nat.blt b drawLine) && allB (fun w => k w (setS S p (.pen q (b + 1)))) xs
        | none => false
      | _ => false
    | _ => false
  | _ => false
def fPick (fa : FA) : FE := fun E S k => fa E S fun ws S1 => gPick ws S1 k
theorem sat_pick {E0' : XK} {fa : FA} {ta : TA} (ha : SatA cl fa ta) : SatE cl (fPick fa) (tCall (spPick cl.adr) [] E0' ta) := fun ρ E S σ H k Q re D h L =>
  ha ρ E S σ H _ _ re D h fun ws S1 ρ1 vs H1 h1 p1 D1 r1 => by
    unfold gPick at h1
    split at h1
    · rename_i p x
      split at h1
      · rename_i q b e1
        split at h1
        · rename_i e2
          split at h1
          · rename_i xs e3
            obtain ⟨h2, h3⟩ := band h1
            simp only [Bool.and_eq_true] at h2
            refine ⟨cl.sh, ρ1, S1, p, q, b, x, xs, k, ?_, D1, e1, e2, e3, PySem.W.Z.blt_iff.mp h2.1.1, PySem.W.Z.blt_iff.mp h2.1.2, PySem.W.Z.blt_iff.mp h2.2, h3, L.mono p1⟩
            rw [List.append_nil]
            exact r1
          · exact ff h1
        · exact ff h1
      · exact ff h1
    · exact ff h1
/-- from a draw to a pick: the pen's object -/
theorem pen_at {ρ : List Addr} {S : SS} {H : Hp} (D : Den cl ρ S H) {p q b : Nat} (h1 : getS S p = some (.pen q b)) (h2 : getS S q = some .cells) :
    ∃ (a lq : Addr) (i g : Int) (ns : List Int), ρ[p]? = some a ∧ ρ[q]? = some lq ∧ H a = some (.lst [.ref lq, .int i, .int g]) ∧ H lq = some (.lst (ns.map V.int)) ∧ ns.length ≤ 63 ∧ 0 ≤ i ∧ i + (cl.sh : Int) ≤ b ∧ 0 ≤ g := by
  obtain ⟨a, u, a1, a2, aq, i, g, a3, rfl, a4, a5, a6⟩ := D.get h1
  obtain ⟨lq, u, b1, b2, ns, rfl, b3⟩ := D.get h2
  rw [a3] at b1; cases b1
  exact ⟨a, aq, i, g, ns, a1, a3, a2, b2, b3, a4, a5, a6⟩
theorem pen_set {ρ : List Addr} {S : SS} {H : Hp} (D : Den cl ρ S H) {p q b : Nat} {a lq : Addr} {i i' g' : Int} (h1 : ρ[p]? = some a) (h2 : ρ[q]? = some lq) (h0 : 0 ≤ i) (hi : i + (cl.sh : Int) ≤ b) (h3 : i ≤ i') (h4 : i' ≤ i + 1) (h5 : 0 ≤ g') :
    Den cl ρ (setS S p (.pen q (b + 1))) (upd H a (.lst [.ref lq, .int i', .int g'])) := D.set (o := .pen q (b + 1)) h1 ⟨lq, i', g', h2, rfl, by omega, by omega, h5⟩

/-! ### a loop whose turns leave nothing behind but a pen that has turned -/
def wEq : W → W → Bool
  | .non, .non => true
  | .bl a, .bl b => bEq a b
  | .int a, .int b => intEq a b
  | .str a, .str b => strEq a b
  | .ref a, .ref b => Nat.beq a b
  | .cls a, .cls b => Nat.beq a b
  | _, _ => false
theorem wEq_ok : ∀ {a b : W}, wEq a b = true → a = b
  | .non, .non, _ => rfl
  | .bl a, .bl b, h => by cases a <;> cases b <;> first | rfl | cases h
  | .int a, .int b, h => congrArg _ ((PySem.W.Z.eqB_iff _ _).mp h)
  | .str a, .str b, h => congrArg _ (strEq_iff.mp h)
  | .ref a, .ref b, h => congrArg _ (Nat.eq_of_beq_eq_true h)
  | .cls a, .cls b, h => congrArg _ (Nat.eq_of_beq_eq_true h)
def wsEq : List W → List W → Bool
  | [], [] => true
  | a :: l, b :: m => wEq a b && wsEq l m
  | _, _ => false
theorem wsEq_ok : ∀ {a b : List W}, wsEq a b = true → a = b
  | [], [], _ => rfl
  | a :: l, b :: m, h => by rw [wEq_ok (band h).1, wsEq_ok (band h).2]
def oEq : Option Nat → Option Nat → Bool
  | none, none => true
  | some a, some b => Nat.beq a b
  | _, _ => false
theorem oEq_ok : ∀ {a b : Option Nat}, oEq a b = true → a = b
  | none, none, _ => rfl
  | some a, some b, h => congrArg _ (Nat.eq_of_beq_eq_true h)
def fsEq : List (Str × W) → List (Str × W) → Bool
  | [], [] => true
  | (f, a) :: l, (g, b) :: m => (strEq f g && wEq a b) && fsEq l m
  | _, _ => false
theorem fsEq_ok : ∀ {a b : List (Str × W)}, fsEq a b = true → a = b
  | [], [], _ => rfl
  | (f, a) :: l, (g, b) :: m, h => by rw [strEq_iff.mp (band (band h).1).1, wEq_ok (band (band h).1).2, fsEq_ok (band h).2]
/-- S (behind a turn) against S0 (ahead of it), object by object; a pen may have turned by up to m -/
def obLe (m : Nat) : OB → OB → Bool
  | .lst a, .lst b => wsEq a b
  | .tup a, .tup b => wsEq a b
  | .pen q b, .pen r c => Nat.beq q r && Nat.ble b (c + m)
  | .cells, .cells => true
  | .un, .un => true
  | .dK [], .dK [] => true
  | .exo c d, .exo e f => Nat.beq c e && oEq d f
  | .exd a, .exd b => fsEq a b
  | _, .un => true
  | _, _ => false
def ssCmp (m : Nat) : SS → SS → Bool
  | [], [] => true
  | a :: l, b :: n => obLe m a b && ssCmp m l n
  | _, _ => false
def dropR {α : Type} (l : List α) (k : Nat) : List α := @Nat.rec (fun _ => List α → List α) (fun l => l) (fun _ ih l => @List.rec α (fun _ => List α) [] (fun _ t _ => ih t) l) k l
theorem dropR_eq {α : Type} : ∀ (k : Nat) (l : List α), dropR l k = l.drop k
  | 0, _ => rfl
  | _ + 1, [] => rfl
  | k + 1, _ :: l => dropR_eq k l
def ssLe (m : Nat) (S S0 : SS) : Bool := Nat.ble (lenR S0) (lenR S) && ssCmp m (dropR S (Nat.sub (lenR S) (lenR S0))) S0
/-- each known slot of E0 stands in E -/
def eeLe : EE → EE → Bool
  | [], [] => true
  | a :: l, none :: m => eeLe l m
  | some a :: l, some b :: m => wEq a b && eeLe l m
  | _, _ => false
/-- no reference beyond n -/
def wIn (n : Nat) : W → Bool
  | .ref k => Nat.blt k n
  | _ => true
def wsIn (n : Nat) : List W → Bool
  | [] => true
  | a :: l => wIn n a && wsIn n l
def fsIn (n : Nat) : List (Str × W) → Bool
  | [] => true
  | (_, a) :: l => wIn n a && fsIn n l
def obIn (n : Nat) : OB → Bool
  | .lst a => wsIn n a
  | .tup a => wsIn n a
  | .pen q _ => Nat.blt q n
  | .cells => true
  | .un => true
  | .dK [] => true
  | .exo _ none => true
  | .exo _ (some d) => Nat.blt d n
  | .exd fs => fsIn n fs
  | _ => false
def ssIn (n : Nat) : SS → Bool
  | [] => true
  | a :: l => obIn n a && ssIn n l
def eeIn (n : Nat) : EE → Bool
  | [] => true
  | some a :: l => wIn n a && eeIn n l
  | none :: l => eeIn n l
theorem RelW.cut {ρ : List Addr} {n : Nat} {w : W} {v : V} (h : wIn n w = true) (r : RelW cl ρ w v) : RelW cl (ρ.take n) w v := by
  cases w with
  | ref k =>
    obtain ⟨a, e, z⟩ := r
    exact ⟨a, by rw [List.getElem?_take, if_pos (PySem.W.Z.blt_iff.mp h)]; exact e, z⟩
  | _ => exact r
theorem RelWs.cut {ρ : List Addr} {n : Nat} : ∀ {ws : List W} {vs : List V}, wsIn n ws = true → RelWs cl ρ ws vs → RelWs cl (ρ.take n) ws vs
  | _, _, _, .nil => .nil
  | _, _, h, .cons r t => .cons (RelW.cut (band h).1 r) (RelWs.cut (band h).2 t)
theorem RelF.cut {ρ : List Addr} {n : Nat} : ∀ {fs : List (Str × W)} {vs : List (Str × V)}, fsIn n fs = true → RelF cl ρ fs vs → RelF cl (ρ.take n) fs vs
  | _, _, _, .nil => .nil
  | (_, _) :: _, (_, _) :: _, h, .cons r t => .cons ⟨r.1, RelW.cut (band h).1 r.2⟩ (RelF.cut (band h).2 t)
theorem RelO.cut {ρ : List Addr} {n : Nat} {a : Addr} {o : OB} {u : HO} (h : obIn n o = true) (r : RelO cl ρ a o u) : RelO cl (ρ.take n) a o u := by
  cases o with
  | lst xs => obtain ⟨vs, e, z⟩ := r; exact ⟨vs, e, RelWs.cut h z⟩
  | tup xs => obtain ⟨vs, e, z⟩ := r; exact ⟨vs, e, RelWs.cut h z⟩
  | pen q b =>
    obtain ⟨aq, i, g, e, z⟩ := r
    exact ⟨aq, i, g, by rw [List.getElem?_take, if_pos (PySem.W.Z.blt_iff.mp h)]; exact e, z⟩
  | cells => exact r
  | un => trivial
  | dK l =>
    cases l with
    | nil => obtain ⟨vs, e, z⟩ := r; cases z; exact ⟨[], e, .nil⟩
    | cons _ _ => exact ff h
  | exo c d =>
    cases d with
    | none => exact r
    | some k =>
      obtain ⟨dx, e, z⟩ := r
      exact ⟨dx, by rw [List.getElem?_take, if_pos (PySem.W.Z.blt_iff.mp h)]; exact e, z⟩
  | exd fs => obtain ⟨vs, e, z⟩ := r; exact ⟨vs, e, RelF.cut h z⟩
theorem ssIn_mem {n : Nat} : ∀ {S : SS} {o : OB}, ssIn n S = true → o ∈ S → obIn n o = true
  | [], _, _, h => by cases h
  | a :: l, o, h, e => by
    rcases List.mem_cons.mp e with e | e
    · subst e; exact (band h).1
    · exact ssIn_mem (band h).2 e
theorem ssIn_get {n : Nat} {S : SS} {k : Nat} {o : OB} (h : ssIn n S = true) (e : S.reverse[k]? = some o) : obIn n o = true :=
  ssIn_mem h (List.mem_reverse.mp (List.mem_of_getElem? e))
theorem ssCmp_get {m : Nat} : ∀ {S S0 : SS}, ssCmp m S S0 = true → S.length = S0.length ∧ ∀ {k : Nat} {o : OB}, S0[k]? = some o → ∃ o', S[k]? = some o' ∧ obLe m o' o = true
  | [], [], _ => ⟨rfl, fun e => by simp at e⟩
  | a :: l, b :: n, h => by
    obtain ⟨h1, h2⟩ := ssCmp_get (band h).2
    refine ⟨congrArg Nat.succ h1, fun {k o} e => ?_⟩
    cases k with
    | zero => simp at e; subst e; exact ⟨a, rfl, (band h).1⟩
    | succ k =>
      obtain ⟨o', h3, h4⟩ := h2 (k := k) (by simpa using e)
      exact ⟨o', by simpa using h3, h4⟩
  | [], _ :: _, h => ff h
  | _ :: _, [], h => ff h
theorem ssLe_len {m : Nat} {S S0 : SS} (h : ssLe m S S0 = true) : S0.length ≤ S.length := by
  have := PySem.W.Z.ble_iff.mp (band h).1
  rw [lenR_eq, lenR_eq] at this
  exact this
theorem ssLe_get {m : Nat} {S S0 : SS} {k : Nat} {o : OB} (h : ssLe m S S0 = true) (e : S0.reverse[k]? = some o) : ∃ o', S.reverse[k]? = some o' ∧ obLe m o' o = true := by
  have hl := ssLe_len h
  have hk : k < S0.length := by
    have := (List.getElem?_eq_some_iff.mp e).1
    simpa using this
  obtain ⟨h1, h2⟩ := ssCmp_get (band h).2
  rw [dropR_eq, lenR_eq, lenR_eq] at h1 h2
  rw [List.getElem?_reverse hk] at e
  obtain ⟨o', h3, h4⟩ := h2 e
  refine ⟨o', ?_, h4⟩
  rw [List.getElem?_reverse (by omega)]
  rw [List.getElem?_drop] at h3
  rw [← h3]
  congr 1
  show S.length - 1 - k = (S.length - S0.length) + (S0.length - 1 - k)
  omega
theorem RelO.weak {cl' : CL} {ρ : List Addr} {m : Nat} {a : Addr} {o o' : OB} {u : HO} (hc : cl'.adr = cl.adr) (hs : cl'.sh + m ≤ cl.sh) (hl : obLe m o' o = true) (r : RelO cl ρ a o' u) {n : Nat} (hm : obIn n o = true) : RelO cl' ρ a o u := by
  have w1 : ∀ {w : W} {v : V}, RelW cl ρ w v → RelW cl' ρ w v := by
    intro w v r
    cases w <;> first | exact r | (show v = _; rw [hc]; exact r)
  have w2 : ∀ {ws : List W} {vs : List V}, RelWs cl ρ ws vs → RelWs cl' ρ ws vs := fun r => Paired.imp (fun _ _ q => w1 q) r
  cases o with
  | un => cases u <;> trivial
  | lst b =>
    cases o' with
    | lst a' =>
      have e := wsEq_ok (show wsEq a' b = true from hl)
      subst e
      obtain ⟨vs, e, z⟩ := r
      exact ⟨vs, e, w2 z⟩
    | dK l' => cases l' <;> exact ff hl
    | _ => exact ff hl
  | tup b =>
    cases o' with
    | tup a' =>
      have e := wsEq_ok (show wsEq a' b = true from hl)
      subst e
      obtain ⟨vs, e, z⟩ := r
      exact ⟨vs, e, w2 z⟩
    | dK l' => cases l' <;> exact ff hl
    | _ => exact ff hl
  | pen q c =>
    cases o' with
    | pen r' b =>
      obtain ⟨h1, h2⟩ := band (show (Nat.beq r' q && Nat.ble b (c + m)) = true from hl)
      have e := Nat.eq_of_beq_eq_true h1
      subst e
      have h3 := PySem.W.Z.ble_iff.mp h2
      obtain ⟨aq, i, g, a1, a2, a3, a4, a5⟩ := r
      exact ⟨aq, i, g, a1, a2, a3, by omega, a5⟩
    | dK l' => cases l' <;> exact ff hl
    | _ => exact ff hl
  | cells =>
    cases o' with
    | cells => exact r
    | dK l' => cases l' <;> exact ff hl
    | _ => exact ff hl
  | dK l =>
    cases l with
    | cons _ _ => exact ff hm
    | nil =>
      cases o' with
      | dK l' =>
        cases l' with
        | nil => obtain ⟨vs, e, z⟩ := r; cases z; exact ⟨[], e, .nil⟩
        | cons _ _ => exact ff hl
      | _ => exact ff hl
  | exo c d =>
    cases o' with
    | exo c' d' =>
      obtain ⟨h1, h2⟩ := band (show (Nat.beq c' c && oEq d' d) = true from hl)
      have e1 := Nat.eq_of_beq_eq_true h1
      have e2 := oEq_ok h2
      subst e1
      subst e2
      cases d' with
      | none => show u = _; rw [hc]; exact r
      | some k => obtain ⟨dx, e, z⟩ := r; exact ⟨dx, e, by rw [hc]; exact z⟩
    | dK l' => cases l' <;> exact ff hl
    | _ => exact ff hl
  | exd fs =>
    cases o' with
    | exd fs' =>
      have e := fsEq_ok (show fsEq fs' fs = true from hl)
      subst e
      obtain ⟨vs, e, z⟩ := r
      exact ⟨vs, e, Paired.imp (fun _ _ q => ⟨q.1, w1 q.2⟩) z⟩
    | dK l' => cases l' <;> exact ff hl
    | _ => exact ff hl
/-- what stands behind a turn, cut back to what stood ahead -/
theorem Den.back {cl' : CL} {ρ : List Addr} {S S0 : SS} {H : Hp} {m : Nat} (hc : cl'.adr = cl.adr) (hs : cl'.sh + m ≤ cl.sh) (D : Den cl ρ S H) (h1 : ssLe m S S0 = true) (h2 : ssIn S0.length S0 = true) : Den cl' (ρ.take S0.length) S0 H := by
  have hlen : S0.length ≤ S.length := ssLe_len h1
  have hρ : (ρ.take S0.length).length = S0.length := by rw [List.length_take, D.len]; omega
  refine ⟨hρ, D.nd.sublist (List.take_sublist _ _), fun k o a e1 e2 => ?_⟩
  rw [getS_eq] at e1
  have hk : k < S0.length := by
    have := (List.getElem?_eq_some_iff.mp e1).1
    simpa using this
  rw [List.getElem?_take, if_pos hk] at e2
  obtain ⟨o', e3, e4⟩ := ssLe_get h1 e1
  obtain ⟨u, e5, e6⟩ := D.at' k o' a ((getS_eq _ _).trans e3) e2
  refine ⟨u, e5, ?_⟩
  have hin := ssIn_get h2 e1
  exact RelO.cut hin (RelO.weak hc hs e4 e6 hin)
theorem RelE.back {cl' : CL} {ρ : List Addr} {n : Nat} (hc : cl'.adr = cl.adr) : ∀ {E E0 : EE} {σ : L2.St}, RelE cl ρ E σ → eeLe E E0 = true → eeIn n E0 = true → RelE cl' (ρ.take n) E0 σ
  | [], [], _, .nil, _, _ => .nil
  | _ :: _, none :: _, _, .cons _ t, h, h2 => .cons (fun _ e => nomatch e) (RelE.back hc t h h2)
  | some a :: _, some b :: _, _, .cons q t, h, h2 => by
    obtain ⟨h3, h4⟩ := band h
    obtain ⟨h5, h6⟩ := band h2
    have e := wEq_ok h3
    subst e
    refine .cons (fun w e => ?_) (RelE.back hc t h4 h6)
    cases e
    obtain ⟨v, h7, h8⟩ := q a rfl
    refine ⟨v, h7, ?_⟩
    have h9 := RelW.cut h5 h8
    cases a <;> first | exact h9 | (show v = _; rw [hc]; exact h9)
  | [], _ :: _, _, _, h, _ => ff h
  | none :: _, some _ :: _, _, _, h, _ => ff h
  | _ :: _, [], _, _, h, _ => ff h
/-- for x in range(n): each turn is looked at once, from the same E0, S0 (the pen's count at its highest); M: draws a turn at most. The names in vs are the turn's own -/
def turnsM (g : FG) (body : FS) (K : KS) (E0 : EE) (S0 : SS) (M : Nat) : Nat → Nat → Bool
  | 0, _ => true
  | m + 1, i => g (.int (Int.ofNat i)) E0 S0 (fun E2 S2 => body { nx := fun E3 S3 => eeLe E3 E0 && ssLe M S3 S0, rt := K.rt, bk := fun _ _ => false, ct := fun E3 S3 => eeLe E3 E0 && ssLe M S3 S0 } E2 S2) && turnsM g body K E0 S0 M m (i + 1)
/-- the pens' counts lifted -/
def liftP (m : Nat) : SS → SS
  | [] => []
  | .pen q b :: l => .pen q (b + m) :: liftP m l
  | o :: l => o :: liftP m l
def fForM (n M : Nat) (vs : List Nat) (g : FG) (body : FS) : FS := fun K E S =>
  let E0 := wipeE E vs
  let S0 := liftP (n * M) S
  (eeIn (lenR S0) E0 && ssIn (lenR S0) S0) && (turnsM g body K E0 S0 M n 0 && K.nx E0 S0)

theorem turnsM_get {g : FG} {body : FS} {K : KS} {E0 : EE} {S0 : SS} {M : Nat} : ∀ {n i j : Nat}, turnsM g body K E0 S0 M n i = true → i ≤ j → j < i + n →
    g (.int (Int.ofNat j)) E0 S0 (fun E2 S2 => body { nx := fun E3 S3 => eeLe E3 E0 && ssLe M S3 S0, rt := K.rt, bk := fun _ _ => false, ct := fun E3 S3 => eeLe E3 E0 && ssLe M S3 S0 } E2 S2) = true
  | 0, i, j, _, h1, h2 => by omega
  | n + 1, i, j, h, h1, h2 => by
    obtain ⟨h3, h4⟩ := band h
    by_cases e : i = j
    · subst e; exact h3
    · exact turnsM_get h4 (by omega) (by omega)
theorem RelW.sh {cl' : CL} {ρ : List Addr} (hc : cl'.adr = cl.adr) {w : W} {v : V} (r : RelW cl ρ w v) : RelW cl' ρ w v := by
  cases w <;> first | exact r | (show v = _; rw [hc]; exact r)
theorem RelE.sh {cl' : CL} {ρ : List Addr} (hc : cl'.adr = cl.adr) {E : EE} {σ : L2.St} (r : RelE cl ρ E σ) : RelE cl' ρ E σ := Paired.imp (fun _ _ q w e => let ⟨v, a, b⟩ := q w e; ⟨v, a, RelW.sh hc b⟩) r
theorem RelO.sh {cl' : CL} {ρ : List Addr} (hc : cl'.adr = cl.adr) (hs : cl'.sh ≤ cl.sh) {a : Addr} {o : OB} {u : HO} (r : RelO cl ρ a o u) : RelO cl' ρ a o u := by
  cases o with
  | lst xs => obtain ⟨vs, e, z⟩ := r; exact ⟨vs, e, Paired.imp (fun _ _ q => RelW.sh hc q) z⟩
  | tup xs => obtain ⟨vs, e, z⟩ := r; exact ⟨vs, e, Paired.imp (fun _ _ q => RelW.sh hc q) z⟩
  | dK xs => obtain ⟨vs, e, z⟩ := r; exact ⟨vs, e, Paired.imp (fun _ _ q => ⟨q.1, RelW.sh hc q.2⟩) z⟩
  | exo c d =>
    cases d with
    | none => show u = _; rw [hc]; exact r
    | some k => obtain ⟨dx, e, z⟩ := r; exact ⟨dx, e, by rw [hc]; exact z⟩
  | exd fs => obtain ⟨vs, e, z⟩ := r; exact ⟨vs, e, Paired.imp (fun _ _ q => ⟨q.1, RelW.sh hc q.2⟩) z⟩
  | pen q b => obtain ⟨aq, i, g, a1, a2, a3, a4, a5⟩ := r; exact ⟨aq, i, g, a1, a2, a3, by omega, a5⟩
  | cells => exact r
  | un => cases u <;> trivial
theorem Den.sh {cl' : CL} {ρ : List Addr} {S : SS} {H : Hp} (hc : cl'.adr = cl.adr) (hs : cl'.sh ≤ cl.sh) (D : Den cl ρ S H) : Den cl' ρ S H :=
  ⟨D.len, D.nd, fun k o a h1 h2 => let ⟨u, e, r⟩ := D.at' k o a h1 h2; ⟨u, e, RelO.sh hc hs r⟩⟩
theorem RelE.less {ρ : List Addr} : ∀ {E : EE} {σ : L2.St} (i : Nat), RelE cl ρ E σ → RelE cl ρ (E.set i none) σ
  | _, _, _, .nil => .nil
  | _, _, 0, .cons _ t => .cons (fun _ e => nomatch e) t
  | _, _, i + 1, .cons q t => .cons q (RelE.less i t)
theorem RelE.lesses {ρ : List Addr} {E : EE} {σ : L2.St} (r : RelE cl ρ E σ) : ∀ vs : List Nat, RelE cl ρ (wipeE E vs) σ
  | [] => r
  | v :: vs => RelE.less v (RelE.lesses r vs)
theorem liftP_len (m : Nat) : ∀ S : SS, (liftP m S).length = S.length
  | [] => rfl
  | o :: l => by cases o <;> simp [liftP, liftP_len m l]
theorem liftP_get0 (m : Nat) : ∀ {S : SS} {k : Nat} {o : OB}, (liftP m S)[k]? = some o → ∃ o', S[k]? = some o' ∧ ((o = o' ∧ ∀ q b, o ≠ .pen q b) ∨ ∃ q b, o' = .pen q b ∧ o = .pen q (b + m))
  | [], _, _, h => by simp [liftP] at h
  | o :: l, 0, o', h => by
    cases o <;> simp [liftP] at h <;> subst h <;> first | exact ⟨_, rfl, .inl ⟨rfl, fun _ _ z => nomatch z⟩⟩ | exact ⟨_, rfl, .inr ⟨_, _, rfl, rfl⟩⟩
  | o :: l, k + 1, o', h => by
    have h' : (liftP m l)[k]? = some o' := by cases o <;> simpa [liftP] using h
    obtain ⟨o2, e1, e2⟩ := liftP_get0 m h'
    exact ⟨o2, by simpa using e1, e2⟩
theorem liftP_append (m : Nat) : ∀ A B : SS, liftP m (A ++ B) = liftP m A ++ liftP m B
  | [], _ => rfl
  | a :: l, B => by cases a <;> simp [liftP, liftP_append m l B]
theorem liftP_rev (m : Nat) : ∀ S : SS, (liftP m S).reverse = liftP m S.reverse
  | [] => rfl
  | a :: l => by
    rw [List.reverse_cons, liftP_append, ← liftP_rev m l]
    cases a <;> simp [liftP]
theorem liftP_get (m : Nat) {S : SS} {k : Nat} {o : OB} (h : (liftP m S).reverse[k]? = some o) : ∃ o', S.reverse[k]? = some o' ∧ ((o = o' ∧ ∀ q b, o ≠ .pen q b) ∨ ∃ q b, o' = .pen q b ∧ o = .pen q (b + m)) :=
  liftP_get0 m (by rw [liftP_rev] at h; exact h)
theorem Den.lift {cl' : CL} {ρ : List Addr} {S : SS} {H : Hp} {m : Nat} (hc : cl'.adr = cl.adr) (hs : cl'.sh = cl.sh + m) (D : Den cl ρ S H) : Den cl' ρ (liftP m S) H := by
  refine ⟨by rw [liftP_len]; exact D.len, D.nd, fun k o a h1 h2 => ?_⟩
  rw [getS_eq] at h1
  obtain ⟨o', e1, e2⟩ := liftP_get m h1
  obtain ⟨u, e3, r⟩ := D.at' k o' a ((getS_eq _ _).trans e1) h2
  refine ⟨u, e3, ?_⟩
  rcases e2 with ⟨rfl, np⟩ | ⟨q, b, rfl, rfl⟩
  · cases o with
    | pen q b => exact absurd rfl (np q b)
    | lst xs => obtain ⟨vs, e, z⟩ := r; exact ⟨vs, e, Paired.imp (fun _ _ q => RelW.sh hc q) z⟩
    | tup xs => obtain ⟨vs, e, z⟩ := r; exact ⟨vs, e, Paired.imp (fun _ _ q => RelW.sh hc q) z⟩
    | dK xs => obtain ⟨vs, e, z⟩ := r; exact ⟨vs, e, Paired.imp (fun _ _ q => ⟨q.1, RelW.sh hc q.2⟩) z⟩
    | exo c d =>
      cases d with
      | none => show u = _; rw [hc]; exact r
      | some k => obtain ⟨dx, e, z⟩ := r; exact ⟨dx, e, by rw [hc]; exact z⟩
    | exd fs => obtain ⟨vs, e, z⟩ := r; exact ⟨vs, e, Paired.imp (fun _ _ q => ⟨q.1, RelW.sh hc q.2⟩) z⟩
    | cells => exact r
    | un => cases u <;> trivial
  · obtain ⟨aq, i, g, a1, a2, a3, a4, a5⟩ := r
    exact ⟨aq, i, g, a1, a2, a3, by omega, a5⟩
theorem sat_forM {n M : Nat} {vs : List Nat} {g : FG} {body : FS} {tg : TG} {tb : TS} (hn : n < 4611686018427387904) (hg : ∀ cl' : CL, SatG cl' g tg) (hb : ∀ cl' : CL, cl'.adr = cl.adr → SatS cl' body tb) :
    SatS cl (fForM n M vs g body) (tFor (iRng1 (tCons (tC (.int (Int.ofNat n))) tNil)) tg tb) := fun ρ E S σ H K D re Dn h L => by
  obtain ⟨h1, h2⟩ := band h
  obtain ⟨h3, h4⟩ := band h1
  obtain ⟨h5, h6⟩ := band h2
  rw [lenR_eq] at h3 h4
  have hlen : (liftP (n * M) S).length = ρ.length := by rw [liftP_len, Dn.len]
  refine ⟨Int.ofNat n, rfl, by have := Int.natCast_nonneg n; show -(2 ^ 62) ≤ (n : Int); omega, by show (n : Int) < 2 ^ 62; omega, ?_⟩
  refine for_range (lo := 0) (n := (Int.ofNat n).toNat) (fun i σ H => RelE { adr := cl.adr, sh := cl.sh + (n - i) * M } ρ (wipeE E vs) σ ∧ Den { adr := cl.adr, sh := cl.sh + (n - i) * M } ρ (liftP (n * M) S) H)
    ⟨RelE.sh (cl := cl) rfl (RelE.lesses re vs), Den.lift (cl := cl) rfl (by simp) Dn⟩ ?_ ?_
  · rintro i σ H hi ⟨r1, r2⟩
    have hi' : i < n := hi
    have t := turnsM_get h5 (Nat.zero_le i) (by omega)
    have e0 : (0 : Int) + (i : Int) = Int.ofNat i := by show (0 : Int) + (i : Int) = (i : Int); omega
    rw [e0]
    have pow : (n - i) * M = (n - (i + 1)) * M + M := by
      rw [show n - i = (n - (i + 1)) + 1 by omega, Nat.add_mul, Nat.one_mul]
    have take_eq : ∀ {ρ2 : List Addr}, ρ <+: ρ2 → ρ2.take (liftP (n * M) S).length = ρ := by
      rintro ρ2 ⟨t, rfl⟩
      rw [hlen, List.take_left']
      rfl
    have back : ∀ (E3 : EE) (S3 : SS) (ρ3 : List Addr) (σ3 : L2.St) (H3 : Hp), (eeLe E3 (wipeE E vs) && ssLe M S3 (liftP (n * M) S)) = true → ρ <+: ρ3 → Den { adr := cl.adr, sh := cl.sh + (n - i) * M } ρ3 S3 H3 → RelE { adr := cl.adr, sh := cl.sh + (n - i) * M } ρ3 E3 σ3 →
        RelE { adr := cl.adr, sh := cl.sh + (n - (i + 1)) * M } ρ (wipeE E vs) σ3 ∧ Den { adr := cl.adr, sh := cl.sh + (n - (i + 1)) * M } ρ (liftP (n * M) S) H3 := by
      intro E3 S3 ρ3 σ3 H3 hh p3 D3 re3
      obtain ⟨q1, q2⟩ := band hh
      have b1 := Den.back (cl := { adr := cl.adr, sh := cl.sh + (n - i) * M }) (cl' := { adr := cl.adr, sh := cl.sh + (n - (i + 1)) * M }) (m := M) rfl (by show cl.sh + (n - (i + 1)) * M + M ≤ cl.sh + (n - i) * M; omega) D3 q2 h4
      have b2 := RelE.back (cl := { adr := cl.adr, sh := cl.sh + (n - i) * M }) (cl' := { adr := cl.adr, sh := cl.sh + (n - (i + 1)) * M }) rfl re3 q1 h3
      rw [take_eq p3] at b1 b2
      exact ⟨b2, b1⟩
    refine hg _ ρ _ _ σ H (.int (Int.ofNat i)) _ _ _ r1 r2 rfl t fun E2 S2 ρ2 σ2 H2 t2 p2 D2 re2 => ?_
    refine hb { adr := cl.adr, sh := cl.sh + (n - i) * M } rfl ρ2 E2 S2 σ2 H2 _ _ re2 D2 t2 ⟨fun E3 S3 ρ3 σ3 H3 hh p3 D3 re3 => back E3 S3 ρ3 σ3 H3 hh (p2.trans p3) D3 re3, fun w S3 ρ3 v H3 hh p3 D3 r3 => ?_, fun _ _ _ _ _ hh _ _ _ => ff hh, fun E3 S3 ρ3 σ3 H3 hh p3 D3 re3 => back E3 S3 ρ3 σ3 H3 hh (p2.trans p3) D3 re3⟩
    exact L.rt w S3 ρ3 v H3 hh (p2.trans p3) (Den.sh (cl := { adr := cl.adr, sh := cl.sh + (n - i) * M }) rfl (Nat.le_add_right _ _) D3) (RelW.sh (cl := { adr := cl.adr, sh := cl.sh + (n - i) * M }) rfl r3)
  · rintro σ H ⟨r1, r2⟩
    have e : n - (Int.ofNat n).toNat = 0 := by show n - n = 0; omega
    rw [e] at r1 r2
    exact L.nx _ _ ρ σ H h6 pre_refl (Den.sh (cl := { adr := cl.adr, sh := cl.sh + 0 * M }) rfl (Nat.le_add_right _ _) r2) (RelE.sh (cl := { adr := cl.adr, sh := cl.sh + 0 * M }) rfl r1)
/-- n is what the arguments give -/
def fForG (M : Nat) (vs : List Nat) (fa : FA) (g : FG) (body : FS) : FS := fun K E S => fa E S fun ws S1 => match ws with
  | [.int (.ofNat n)] => Nat.blt n 4611686018427387904 && fForM n M vs g body K E S1
  | _ => false
theorem sat_forG {M : Nat} {vs : List Nat} {fa : FA} {ta : TA} {g : FG} {body : FS} {tg : TG} {tb : TS} (ha : SatA cl fa ta) (hg : ∀ cl' : CL, SatG cl' g tg) (hb : ∀ cl' : CL, cl'.adr = cl.adr → SatS cl' body tb) :
    SatS cl (fForG M vs fa g body) (tFor (iRng1 ta) tg tb) := fun ρ E S σ H K D re Dn h L => by
  refine ha ρ E S σ H _ _ re Dn h fun ws S1 ρ1 us H1 h1 p1 D1 r1 => ?_
  split at h1
  · rename_i n
    obtain ⟨h2, h3⟩ := band h1
    cases r1 with
    | cons r0 rr =>
      cases rr
      have r0' := r0
      cases r0'
      exact sat_forM (cl := cl) (PySem.W.Z.blt_iff.mp h2) hg hb ρ1 E S1 σ H1 K D (re.mono p1) D1 h3 (L.mono p1)
  · exact ff h1
/-- the loop's name is not looked at -/
def gfDrop (i : Nat) : FG := fun _ E S k => k (setR E i none) S
theorem sat_gdrop {i : Nat} : SatG cl (gfDrop i) (gName i) := fun ρ E S σ H w v k Q re D r h L => by
  refine L _ _ _ _ _ h pre_refl D ?_
  have set : ∀ {E : EE} {σ : L2.St} (i : Nat), RelE cl ρ E σ → RelE cl ρ (E.set i none) (σ.set i (some v)) := by
    intro E σ i re
    induction re generalizing i with
    | nil => exact .nil
    | cons q t ih =>
      cases i with
      | zero => exact .cons (fun _ e => nomatch e) t
      | succ i => exact .cons q (ih i)
  rw [setR_eq]
  exact set i re
/-- n turns, looked at once -/
def fForU (n M : Nat) (vs : List Nat) (i : Nat) (body : FS) : FS := fun K E S =>
  let E0 := wipeE E vs
  let S0 := liftP (n * M) S
  (eeIn (lenR S0) E0 && ssIn (lenR S0) S0) && (body { nx := fun E3 S3 => eeLe E3 E0 && ssLe M S3 S0, rt := K.rt, bk := fun _ _ => false, ct := fun E3 S3 => eeLe E3 E0 && ssLe M S3 S0 } (setR E0 i none) S0 && K.nx E0 S0)
theorem sat_forU {n M : Nat} {vs : List Nat} {i : Nat} {body : FS} {tb : TS} (hn : n < 4611686018427387904) (hb : ∀ cl' : CL, cl'.adr = cl.adr → SatS cl' body tb) :
    SatS cl (fForU n M vs i body) (tFor (iRng1 (tCons (tC (.int (Int.ofNat n))) tNil)) (gName i) tb) := fun ρ E S σ H K D re Dn h L => by
  refine sat_forM (cl := cl) (M := M) (vs := vs) (g := gfDrop i) hn (fun _ => sat_gdrop) hb ρ E S σ H K D re Dn ?_ L
  obtain ⟨h1, h2⟩ := band h
  obtain ⟨h3, h4⟩ := band h2
  have key : ∀ (m j : Nat), turnsM (gfDrop i) body K (wipeE E vs) (liftP (n * M) S) M m j = true := by
    intro m
    induction m with
    | zero => intro j; rfl
    | succ m ih =>
      intro j
      unfold turnsM
      rw [ih (j + 1), Bool.and_true]
      exact h3
  unfold fForM
  dsimp only
  rw [key, h4, h1]
  rfl
end
end RI
namespace RI
open PySem PySem.Spec PyProof.Rows L2
section
variable {cl : CL}
/-- a, b = e1, e2 -/
def fPar (i j : Nat) (fa : FA) : FS := fun k E S => fa E S fun ws S1 => match ws with
  | [v, w] => k.nx (setR (setR E i (some v)) j (some w)) S1
  | _ => false
theorem sat_par {i j : Nat} {fa : FA} {ta : TA} (ha : SatA cl fa ta) : SatS cl (fPar i j fa) (tPar i j ta) := fun ρ E S σ H k D re Dn h L =>
  ha ρ E S σ H _ _ re Dn h fun ws S1 ρ1 vs H1 h1 p1 D1 r1 => by
    split at h1
    · rename_i v w
      cases r1 with
      | cons r0 rr =>
        cases rr with
        | cons r1 rr =>
          cases rr
          exact ⟨_, _, rfl, L.nx _ _ _ _ _ h1 p1 D1 (RelE.set r1 j (RelE.set r0 i (RelE.mono p1 re)))⟩
    · exact ff h1
def gNeg : W → SS → KW → Bool := fun x S k => match x with
  | .int i => k (.int (-i)) S
  | _ => false
def fNeg (f : FE) : FE := fun E S k => f E S fun x S1 => gNeg x S1 k
theorem sat_neg {f : FE} {t : TE} (hf : SatE cl f t) : SatE cl (fNeg f) (tUn (rU fun i => .int (-i)) t) := fun ρ E S σ H k Q re D h L =>
  hf ρ E S σ H _ _ re D h fun x S1 ρ1 v H1 h1 p1 D1 r1 => by
    cases x with
    | int i => exact ⟨i, r1, L _ _ _ _ _ h1 p1 D1 rfl⟩
    | _ => exact ff h1
def powOk (i j : Int) : Bool := PySem.W.Z.leB 0 j && PySem.W.Z.leB j 1000000 && Nat.blt i.natAbs 18446744073709551616
theorem sat_pow : SatO cl (gI powOk fun i j => .int (i ^ j.toNat)) (rI CPow fun i j => .int (i ^ j.toNat)) := sat_I (fun i j h => by
  unfold powOk at h
  simp only [Bool.and_eq_true] at h
  exact ⟨(PySem.W.Z.leB_iff _ _).mp h.1.1, (PySem.W.Z.leB_iff _ _).mp h.1.2, PySem.W.Z.blt_iff.mp h.2⟩) fun _ _ _ => rfl
/-- a def, no repr within -/
theorem fn_ok0 {adr : Nat → Addr} {P : Program} {w : World} {K : PySem.W.Frag} {mg : Str → Option Value} {base : Heap} {x qual : Str} {st : Stmt} {fa : Addr} {fd : FuncData} {N ps : List Str} {k np nl : Nat} {f : FS} (F : Fun K x qual st fa fd) (S : FnScope N ps (defScope st))
    (h1 : ps.length = np) (h2 : N.length = np + nl)
    (hbody : ∀ (cdv : Value) (A : Around) (outer : List Env) (s : Shared) (H : Hp) (E : XK), Room k (A.deeper (envOfC qual (defScope st) s.heap.objs.size fa cdv)) →
      ∃ t, PSs (cxOf CX0 P w K mg base N qual (defScope st) fa cdv A outer s H E).nox (defBody st) t ∧ ∀ sh, SatS ⟨adr, sh⟩ f t) : FnOk P w K mg base CX0 (k + 1) fa fd ps (spF adr np nl f) :=
  F.ok S (fun vs H Q E h => by rw [spF_len h, h1]) fun cdv A outer s H vs Q E hr h => by
    obtain ⟨t, p, q⟩ := hbody cdv A outer s H E hr
    exact ⟨t, p, spF_run h2 q h⟩
end
end RI
end

set_option Elab.async false
set_option linter.all false
set_option maxRecDepth 100000
set_option maxHeartbeats 4000000
/-! K1F: what decides the law, reckoned. -/
namespace K1
open PySem L2 RI
def ncT : Nat := 22
def naT (_ : Nat) (f : Str) : Bool := strEq f "value" || strEq f "part" || strEq f "at" || strEq f "line" || strEq f "word" || strEq f "name" || strEq f "many" || strEq f "what" || strEq f "most"
def isT (c : Nat) : W → Option Bool
  | .cls d => match Nat.blt c 22 && Nat.blt d 22 with
    | true => some (Nat.beq d 0 || Nat.beq d c)
    | false => none
  | .ty n => match Nat.blt c 22 with
    | true => if n = "ValueError" then some true else if n = "LookupError" then some false else if n = "TypeError" then some false else if n = "ArithmeticError" then some false else none
    | false => none
  | _ => none
def pm1 {α : Type} (us zs : List α) : List α := us ++ zs
def pm2 {α : Type} (us zs : List α) : List α := us ++ zs.reverse
noncomputable def f_BadValue : FS := (fOst naT ncT "value" (fVar 0) (fVar 1))
noncomputable def f_BadName : FS := (fOst naT ncT "value" (fVar 0) (fVar 1))
noncomputable def f_BadTold : FS := (fOst naT ncT "part" (fVar 0) (fVar 1))
noncomputable def f_BadHead : FS := (fOst naT ncT "part" (fVar 0) (fVar 1))
noncomputable def f_BadFilter : FS := (fOst naT ncT "part" (fVar 0) (fVar 1))
noncomputable def f_BadRow : FS := (fOst naT ncT "part" (fVar 0) (fVar 1))
noncomputable def f_BadLots : FS := (fOst naT ncT "part" (fVar 0) (fVar 1))
noncomputable def f_BadShelf : FS := (fOst naT ncT "part" (fVar 0) (fVar 1))
noncomputable def f_BadTable : FS := (fOst naT ncT "at" (fVar 0) (fVar 1))
noncomputable def f_BadQuestion : FS := (fOst naT ncT "part" (fVar 0) (fVar 1))
noncomputable def f_BadRead : FS := (fOst naT ncT "at" (fVar 0) (fVar 1))
noncomputable def f_BadUpkeep : FS := (fOst naT ncT "part" (fVar 0) (fVar 1))
noncomputable def f_BadBook : FS := (fOst naT ncT "part" (fVar 0) (fVar 1))
noncomputable def f_BadText : FS := (fSeq (fOst naT ncT "line" (fVar 0) (fVar 1)) (fOst naT ncT "word" (fVar 0) (fVar 2)))
noncomputable def f_BadLine : FS := (fOst naT ncT "word" (fVar 0) (fVar 1))
noncomputable def f_NoName : FS := (fOst naT ncT "name" (fVar 0) (fVar 1))
noncomputable def f_NoBlock : FS := (fOst naT ncT "at" (fVar 0) (fVar 1))
noncomputable def f_NoCount : FS := (fOst naT ncT "many" (fVar 0) (fVar 1))
noncomputable def f_Taken : FS := (fOst naT ncT "name" (fVar 0) (fVar 1))
noncomputable def f_TooMany : FS := (fSeq (fOst naT ncT "what" (fVar 0) (fVar 1)) (fOst naT ncT "most" (fVar 0) (fVar 2)))
noncomputable def f_law_value : FS := (fSeq (fAsg (fLst (fCons (fC .non) (fCons (fC (.bl true)) (fCons (fC (.int 0)) (fCons (fNeg (fC (.int 1))) (fCons (fOp (gI powOk fun i j => .int (i ^ j.toNat)) (fC (.int 10)) (fC (.int 39))) (fCons (fC (.str "")) (fCons (fC (.str "a")) (fCons (fC (.str "two words")) (fCons (fTup fNil) (fCons (fTup (fCons (fC (.str "a")) (fCons (fC (.int 1)) fNil))) (fCons (fLst fNil) (fCons fDNew (fCons (fC (.bl false)) fNil)))))))))))))) (gfName 1)) (fRet (fPick (fCons (fVar 0) (fCons (fVar 1) fNil)))))
noncomputable def f_law_made : FS := (fSeq (fAsg (fLst (fCons (fTup (fCons (fExV 1 2 0 f_BadValue [] (fCons (fVar 0) fNil)) (fCons (fC (.str "value")) (fCons (fLst (fCons (fVar 0) fNil)) fNil)))) (fCons (fTup (fCons (fExK 2 2 0 1 f_BadName pm1 (fCons (fVar 0) fNil)) (fCons (fC (.str "value")) (fCons (fLst (fCons (fVar 0) fNil)) fNil)))) (fCons (fTup (fCons (fExV 3 2 0 f_BadTold [] (fCons (fVar 0) fNil)) (fCons (fC (.str "part")) (fCons (fLst (fCons (fVar 0) fNil)) fNil)))) fNil)))) (gfName 2)) (fSeq (fAsg (fOp gCat (fVar 2) (fLst (fCons (fTup (fCons (fExK 4 2 0 1 f_BadHead pm1 (fCons (fVar 0) fNil)) (fCons (fC (.str "part")) (fCons (fLst (fCons (fVar 0) fNil)) fNil)))) (fCons (fTup (fCons (fExV 5 2 0 f_BadFilter [] (fCons (fVar 0) fNil)) (fCons (fC (.str "part")) (fCons (fLst (fCons (fVar 0) fNil)) fNil)))) (fCons (fTup (fCons (fExV 6 2 0 f_BadRow [] (fCons (fVar 0) fNil)) (fCons (fC (.str "part")) (fCons (fLst (fCons (fVar 0) fNil)) fNil)))) fNil))))) (gfName 2)) (fSeq (fAsg (fOp gCat (fVar 2) (fLst (fCons (fTup (fCons (fExV 7 2 0 f_BadLots [] (fCons (fVar 0) fNil)) (fCons (fC (.str "part")) (fCons (fLst (fCons (fVar 0) fNil)) fNil)))) (fCons (fTup (fCons (fExK 8 2 0 1 f_BadShelf pm1 (fCons (fVar 0) fNil)) (fCons (fC (.str "part")) (fCons (fLst (fCons (fVar 0) fNil)) fNil)))) (fCons (fTup (fCons (fExV 9 2 0 f_BadTable [] (fCons (fVar 0) fNil)) (fCons (fC (.str "at")) (fCons (fLst (fCons (fVar 0) fNil)) fNil)))) fNil))))) (gfName 2)) (fSeq (fAsg (fOp gCat (fVar 2) (fLst (fCons (fTup (fCons (fExV 10 2 0 f_BadQuestion [] (fCons (fVar 0) fNil)) (fCons (fC (.str "part")) (fCons (fLst (fCons (fVar 0) fNil)) fNil)))) (fCons (fTup (fCons (fExK 11 2 0 1 f_BadRead pm1 (fCons (fVar 0) fNil)) (fCons (fC (.str "at")) (fCons (fLst (fCons (fVar 0) fNil)) fNil)))) (fCons (fTup (fCons (fExV 12 2 0 f_BadUpkeep [] (fCons (fVar 0) fNil)) (fCons (fC (.str "part")) (fCons (fLst (fCons (fVar 0) fNil)) fNil)))) fNil))))) (gfName 2)) (fSeq (fAsg (fOp gCat (fVar 2) (fLst (fCons (fTup (fCons (fExV 13 2 0 f_BadBook [] (fCons (fVar 0) fNil)) (fCons (fC (.str "part")) (fCons (fLst (fCons (fVar 0) fNil)) fNil)))) (fCons (fTup (fCons (fExK 14 3 0 2 f_BadText pm2 (fCons (fVar 1) (fCons (fVar 0) fNil))) (fCons (fC (.str "line word")) (fCons (fLst (fCons (fVar 0) (fCons (fVar 1) fNil))) fNil)))) fNil)))) (gfName 2)) (fSeq (fAsg (fOp gCat (fVar 2) (fLst (fCons (fTup (fCons (fExV 15 2 0 f_BadLine [] (fCons (fVar 0) fNil)) (fCons (fC (.str "word")) (fCons (fLst (fCons (fVar 0) fNil)) fNil)))) (fCons (fTup (fCons (fExK 16 2 0 1 f_NoName pm1 (fCons (fVar 0) fNil)) (fCons (fC (.str "name")) (fCons (fLst (fCons (fVar 0) fNil)) fNil)))) (fCons (fTup (fCons (fExV 17 2 0 f_NoBlock [] (fCons (fVar 0) fNil)) (fCons (fC (.str "at")) (fCons (fLst (fCons (fVar 0) fNil)) fNil)))) fNil))))) (gfName 2)) (fSeq (fAsg (fOp gCat (fVar 2) (fLst (fCons (fTup (fCons (fExK 18 2 0 1 f_NoCount pm1 (fCons (fVar 0) fNil)) (fCons (fC (.str "many")) (fCons (fLst (fCons (fVar 0) fNil)) fNil)))) (fCons (fTup (fCons (fExV 19 2 0 f_Taken [] (fCons (fVar 0) fNil)) (fCons (fC (.str "name")) (fCons (fLst (fCons (fVar 0) fNil)) fNil)))) (fCons (fTup (fCons (fExK 6 2 0 1 f_BadRow pm1 (fCons (fVar 0) fNil)) (fCons (fC (.str "part")) (fCons (fLst (fCons (fVar 0) fNil)) fNil)))) fNil))))) (gfName 2)) (fRet (fOp gCat (fVar 2) (fLst (fCons (fTup (fCons (fExV 20 3 0 f_TooMany [] (fCons (fVar 0) (fCons (fVar 1) fNil))) (fCons (fC (.str "what most")) (fCons (fLst (fCons (fVar 0) (fCons (fVar 1) fNil))) fNil)))) (fCons (fTup (fCons (fEx0 21 fNil) (fCons (fC (.str "")) (fCons (fLst fNil) fNil)))) (fCons (fTup (fCons (fExK 9 2 0 1 f_BadTable pm1 (fCons (fVar 0) fNil)) (fCons (fC (.str "at")) (fCons (fLst (fCons (fVar 0) fNil)) fNil)))) fNil)))))))))))))
noncomputable def f_law_fields : FS := (fSeq (fIfS (fB (fOp (gEq false) (fVar 1) (fC (.str "line word")))) (fRet (fLst (fCons (fExF naT ncT "line" (fVar 0)) (fCons (fExF naT ncT "word" (fVar 0)) fNil)))) fNext) (fSeq (fIfS (fB (fOp (gEq false) (fVar 1) (fC (.str "what most")))) (fRet (fLst (fCons (fExF naT ncT "what" (fVar 0)) (fCons (fExF naT ncT "most" (fVar 0)) fNil)))) fNext) (fSeq (fIfS (fB (fOp (gIn false) (fVar 1) (fTup (fCons (fC (.str "value")) (fCons (fC (.str "part")) fNil))))) (fRet (fIf (fB (fOp (gEq false) (fVar 1) (fC (.str "value")))) (fLst (fCons (fExF naT ncT "value" (fVar 0)) fNil)) (fLst (fCons (fExF naT ncT "part" (fVar 0)) fNil)))) fNext) (fSeq (fIfS (fB (fOp (gIn false) (fVar 1) (fTup (fCons (fC (.str "at")) (fCons (fC (.str "word")) fNil))))) (fRet (fIf (fB (fOp (gEq false) (fVar 1) (fC (.str "at")))) (fLst (fCons (fExF naT ncT "at" (fVar 0)) fNil)) (fLst (fCons (fExF naT ncT "word" (fVar 0)) fNil)))) fNext) (fSeq (fIfS (fB (fOp (gIn false) (fVar 1) (fTup (fCons (fC (.str "name")) (fCons (fC (.str "many")) fNil))))) (fRet (fIf (fB (fOp (gEq false) (fVar 1) (fC (.str "name")))) (fLst (fCons (fExF naT ncT "name" (fVar 0)) fNil)) (fLst (fCons (fExF naT ncT "many" (fVar 0)) fNil)))) fNext) (fRet (fLst fNil)))))))
noncomputable def f_law_classes : FS := (fSeq (fAsg (fLst (fCons (fCB (gIsX isT ncT) (fCons (fVar 0) (fCons (fC (.cls 1)) fNil))) (fCons (fCB (gIsX isT ncT) (fCons (fVar 0) (fCons (fC (.cls 2)) fNil))) (fCons (fCB (gIsX isT ncT) (fCons (fVar 0) (fCons (fC (.cls 3)) fNil))) fNil)))) (gfName 1)) (fSeq (fAsg (fOp gCat (fVar 1) (fLst (fCons (fCB (gIsX isT ncT) (fCons (fVar 0) (fCons (fC (.cls 4)) fNil))) (fCons (fCB (gIsX isT ncT) (fCons (fVar 0) (fCons (fC (.cls 5)) fNil))) (fCons (fCB (gIsX isT ncT) (fCons (fVar 0) (fCons (fC (.cls 6)) fNil))) fNil))))) (gfName 1)) (fSeq (fAsg (fOp gCat (fVar 1) (fLst (fCons (fCB (gIsX isT ncT) (fCons (fVar 0) (fCons (fC (.cls 7)) fNil))) (fCons (fCB (gIsX isT ncT) (fCons (fVar 0) (fCons (fC (.cls 8)) fNil))) (fCons (fCB (gIsX isT ncT) (fCons (fVar 0) (fCons (fC (.cls 9)) fNil))) fNil))))) (gfName 1)) (fSeq (fAsg (fOp gCat (fVar 1) (fLst (fCons (fCB (gIsX isT ncT) (fCons (fVar 0) (fCons (fC (.cls 10)) fNil))) (fCons (fCB (gIsX isT ncT) (fCons (fVar 0) (fCons (fC (.cls 11)) fNil))) (fCons (fCB (gIsX isT ncT) (fCons (fVar 0) (fCons (fC (.cls 12)) fNil))) fNil))))) (gfName 1)) (fSeq (fAsg (fOp gCat (fVar 1) (fLst (fCons (fCB (gIsX isT ncT) (fCons (fVar 0) (fCons (fC (.cls 13)) fNil))) (fCons (fCB (gIsX isT ncT) (fCons (fVar 0) (fCons (fC (.cls 14)) fNil))) (fCons (fCB (gIsX isT ncT) (fCons (fVar 0) (fCons (fC (.cls 15)) fNil))) fNil))))) (gfName 1)) (fSeq (fAsg (fOp gCat (fVar 1) (fLst (fCons (fCB (gIsX isT ncT) (fCons (fVar 0) (fCons (fC (.cls 16)) fNil))) (fCons (fCB (gIsX isT ncT) (fCons (fVar 0) (fCons (fC (.cls 17)) fNil))) (fCons (fCB (gIsX isT ncT) (fCons (fVar 0) (fCons (fC (.cls 18)) fNil))) fNil))))) (gfName 1)) (fSeq (fAsg (fOp gCat (fVar 1) (fLst (fCons (fCB (gIsX isT ncT) (fCons (fVar 0) (fCons (fC (.cls 19)) fNil))) (fCons (fCB (gIsX isT ncT) (fCons (fVar 0) (fCons (fC (.cls 20)) fNil))) (fCons (fCB (gIsX isT ncT) (fCons (fVar 0) (fCons (fC (.cls 21)) fNil))) fNil))))) (gfName 1)) (fRet (fLc 200 (fiRng1 (fCons (fCB gLen (fCons (fVar 1) fNil)) fNil)) (gfName 2) (fB (fOp gIx (fVar 1) (fVar 2))) (fVar 2) [2])))))))))
noncomputable def f_rest : FS := (fSeq (fAsg (fLst (fCons (fC (.int 0)) (fCons (fC (.int 1)) (fCons (fC (.int 2)) (fCons (fC (.int 3)) (fCons (fC (.int 4)) (fCons (fC (.int 5)) (fCons (fC (.int 6)) (fCons (fC (.int 7)) (fCons (fC (.int 8)) (fCons (fC (.int 9)) (fCons (fC (.int 10)) (fCons (fC (.int 11)) (fCons (fC (.int 12)) (fCons (fC (.int 13)) (fCons (fC (.int 14)) (fCons (fC (.int 15)) (fCons (fC (.int 16)) (fCons (fC (.int 17)) (fCons (fC (.int 18)) (fCons (fC (.int 5)) (fCons (fC (.int 19)) (fCons (fC (.int 20)) (fCons (fC (.int 8)) fNil)))))))))))))))))))))))) (gfName 2)) (fSeq (fForU 8 2 [3, 4, 5, 6, 7, 8, 9, 10] 3 (fSeq (fPar 4 5 (fCons (fCall 1 1 f_law_value [] (fCons (fVar 1) fNil)) (fCons (fCall 1 1 f_law_value [] (fCons (fVar 1) fNil)) fNil))) (fSeq (fAsg (fCall 2 1 f_law_made [] (fCons (fVar 4) (fCons (fVar 5) fNil))) (gfName 6)) (fForG 0 [7, 8, 9, 10] (fCons (fCB gLen (fCons (fVar 6) fNil)) fNil) (gfName 7) (fSeq (fAsg (fOp gIx (fVar 6) (fVar 7)) (gfTup 3 (gfCons (gfName 8) (gfCons (gfName 9) (gfCons (gfName 10) gfNil))))) (fSeq (fIfS (fOr (fB (fOp (gEqX true) (fCB gRepr (fCons (fCall 2 0 f_law_fields [] (fCons (fVar 8) (fCons (fVar 9) fNil))) fNil)) (fCB gRepr (fCons (fVar 10) fNil)))) (fB (fOp (gEqD true) (fCall 1 2 f_law_classes [] (fCons (fVar 8) fNil)) (fLst (fCons (fOp gIx (fVar 2) (fVar 7)) fNil))))) (fRet (fC (.bl false))) fNext) (fSeq (fIfS (fOr (fNot (fB (fCB (gIsX isT ncT) (fCons (fVar 8) (fCons (fC (.cls 0)) fNil))))) (fNot (fB (fCB (gIsX isT ncT) (fCons (fVar 8) (fCons (fC (.ty "ValueError")) fNil)))))) (fRet (fC (.bl false))) fNext) (fIfS (fOr (fB (fCB (gIsX isT ncT) (fCons (fVar 8) (fCons (fC (.ty "LookupError")) fNil)))) (fOr (fB (fCB (gIsX isT ncT) (fCons (fVar 8) (fCons (fC (.ty "TypeError")) fNil)))) (fB (fCB (gIsX isT ncT) (fCons (fVar 8) (fCons (fC (.ty "ArithmeticError")) fNil)))))) (fRet (fC (.bl false))) fNext)))))))) (fRet (fAndV (fNotV (fCB (gIsX isT ncT) (fCons (fEx0 0 (fCons (fC (.str "a")) fNil)) (fCons (fC (.cls 1)) fNil)))) (fCB (gIsX isT ncT) (fCons (fEx0 0 (fCons (fC (.str "a")) fNil)) (fCons (fC (.ty "ValueError")) fNil)))))))

def S0 : SS := [.pen 0 0, .cells]
noncomputable def kEnd : KS := endK fun w _ => match w with
  | .bl true => true
  | _ => false
def E0 : EE := [none, some (.ref 1), none, none, none, none, none, none, none, none, none]
end K1

set_option Elab.async false
set_option linter.all false
set_option maxRecDepth 100000
set_option maxHeartbeats 4000000
/-! K1P: the defs of the law and of the errors, by rules, and what decides them. -/
namespace K1
open PySem PySem.Spec PyProof.Rows L2 RI
def top (i : Nat) : Stmt := PySem.Challenge.pw_headskip_k01_errors_and_their_fields.main.body.getD i (.Pass ⟨0, 0, 0, 0⟩)
theorem pm1_rel {cl : CL} (ρ : List Addr) (us : List W) (vs : List V) (zs : List W) (ws : List V) (h : RelWs cl ρ us vs) (g : RelWs cl ρ zs ws) : RelWs cl ρ (pm1 us zs) (pm1 vs ws) := Paired.app h g
theorem paired_rev {α β : Type} {R : α → β → Prop} : ∀ {l : List α} {m : List β}, Paired R l m → Paired R l.reverse m.reverse
  | _, _, .nil => .nil
  | _, _, .cons r t => by
    rw [List.reverse_cons, List.reverse_cons]
    exact Paired.app (paired_rev t) (.cons r .nil)
theorem pm2_rel {cl : CL} (ρ : List Addr) (us : List W) (vs : List V) (zs : List W) (ws : List V) (h : RelWs cl ρ us vs) (g : RelWs cl ρ zs ws) : RelWs cl ρ (pm2 us zs) (pm2 vs ws) := Paired.app h (paired_rev g)
theorem vals_app {a b : List V} {c d : List Value} (h : Vals a c) (g : Vals b d) : Vals (pm1 a b) (pm1 c d) := h.append g
theorem vals_rev {a b : List V} {c d : List Value} (h : Vals a c) (g : Vals b d) : Vals (pm2 a b) (pm2 c d) := h.append (paired_rev g)
structure Txt (K : PySem.W.Frag) (mg : Str → Option Value) (adr : Nat → Addr) : Prop where
  m_SkipError : mg "SkipError" = some (.ref (adr 0))
  m_BadValue : mg "BadValue" = some (.ref (adr 1))
  m_BadName : mg "BadName" = some (.ref (adr 2))
  m_BadTold : mg "BadTold" = some (.ref (adr 3))
  m_BadHead : mg "BadHead" = some (.ref (adr 4))
  m_BadFilter : mg "BadFilter" = some (.ref (adr 5))
  m_BadRow : mg "BadRow" = some (.ref (adr 6))
  m_BadLots : mg "BadLots" = some (.ref (adr 7))
  m_BadShelf : mg "BadShelf" = some (.ref (adr 8))
  m_BadTable : mg "BadTable" = some (.ref (adr 9))
  m_BadQuestion : mg "BadQuestion" = some (.ref (adr 10))
  m_BadRead : mg "BadRead" = some (.ref (adr 11))
  m_BadUpkeep : mg "BadUpkeep" = some (.ref (adr 12))
  m_BadBook : mg "BadBook" = some (.ref (adr 13))
  m_BadText : mg "BadText" = some (.ref (adr 14))
  m_BadLine : mg "BadLine" = some (.ref (adr 15))
  m_NoName : mg "NoName" = some (.ref (adr 16))
  m_NoBlock : mg "NoBlock" = some (.ref (adr 17))
  m_NoCount : mg "NoCount" = some (.ref (adr 18))
  m_Taken : mg "Taken" = some (.ref (adr 19))
  m_TooMany : mg "TooMany" = some (.ref (adr 20))
  m_NoChange : mg "NoChange" = some (.ref (adr 21))
  x_SkipError : PySem.W.excIn K (adr 0) [.type "ValueError", .type "Exception", .type "BaseException", .type "object"] "ValueError.__new__" = true
  k_SkipError : PySem.W.keepIn K (.ref (adr 0)) = true
  x_NoChange : PySem.W.excIn K (adr 21) [.type "ValueError", .type "Exception", .type "BaseException", .type "object"] "ValueError.__new__" = true
  k_NoChange : PySem.W.keepIn K (.ref (adr 21)) = true
  z_len : mg "len" = none
  z_range : mg "range" = none
  z_repr : mg "repr" = none
  z_isinstance : mg "isinstance" = none
  z_list : mg "list" = none
  z_int : mg "int" = none
  z_abs : mg "abs" = none
  z_ValueError : mg "ValueError" = none
  z_LookupError : mg "LookupError" = none
  z_TypeError : mg "TypeError" = none
  z_ArithmeticError : mg "ArithmeticError" = none
structure DefB (K : PySem.W.Frag) (mg : Str → Option Value) (x : Str) (fa : Addr) (fd : FuncData) (ps : List Str) : Prop where
  m : mg x = some (.ref fa)
  k : PySem.W.keepIn K (.ref fa) = true
  b : Binds K fd ps []
structure Ini (P : Program) (w : World) (K : PySem.W.Frag) (mg : Str → Option Value) (base : Heap) (adr : Nat → Addr) (c : Nat) (x : Str) (fI : Addr) (fd : FuncData) (ps ks : List Str) (np : Nat) (f : FS) (pm : {α : Type} → List α → List α → List α) : Prop where
  iC : PySem.W.findIn K (.ref (adr c)) "__init__" = some (some (.ref fI))
  tI : PySem.W.typeIn K (.ref fI) = some (.type "function")
  mC : mg x = some (.ref (adr c))
  F1 : FnOk P w K mg base CX0 1 fI fd ps (spF adr np 0 f)
  b : Binds K fd ps []
  kb : KBn K fd ps 1 ks pm pm
theorem Fun.kbn {K : PySem.W.Frag} {x qual : Str} {st : Stmt} {f : Addr} {fd : FuncData} {ps ks : List Str} {n : Nat} {g : List Value → List Value → List Value} {gV : List V → List V → List V} (F : L2.Fun K x qual st f fd)
    (h : ∀ (kV doc pm : Value) (an : Option Addr) (cdv ct : Value) (us ws : List Value), us.length = n → ws.length = ks.length → bindArgs (PySem.W.fnOf x qual (defArgs st) (defBody st) (defScope st) .none kV doc pm an cdv ct) ⟨us, ks.zip ws⟩ = pure (ps.zip (g us ws)))
    (hr : ∀ {vs : List V} {us : List Value} {zs : List V} {ws : List Value}, Vals vs us → Vals zs ws → Vals (gV vs zs) (g us ws)) : KBn K fd ps n ks g gV := by
  obtain ⟨oc, od, kV, doc, pm, an, cdv, ct, osl, rfl, lk, hcd⟩ := F.ex
  exact ⟨fun s us ws _ l1 l2 => .of_eq (h kV doc pm an cdv ct us ws l1 l2), hr⟩
section
variable {P : Program} {w : World} {K : PySem.W.Frag} {mg : Str → Option Value} {base : Heap} {adr : Nat → Addr}
abbrev s_BadValue : Stmt := inClass (top 2) 0
theorem sc_BadValue : FnScope ["self", "value"] ["self", "value"] (defScope s_BadValue) := ⟨rfl, rfl, rfl, by decide +kernel, rfl, by decide +kernel, by decide +kernel⟩
theorem ini_BadValue {fI : Addr} {fd : FuncData} (X : ExF K ⟨adr, 0⟩ isT naT ncT) (T : Txt K mg adr) (F : L2.Fun K "__init__" "BadValue.__init__" s_BadValue fI fd) (iC : PySem.W.findIn K (.ref (adr 1)) "__init__" = some (some (.ref fI))) (tI : PySem.W.typeIn K (.ref fI) = some (.type "function")) : Ini P w K mg base adr 1 "BadValue" fI fd ["self", "value"] ["value"] 2 f_BadValue pm1 :=
  ⟨iC, tI, T.m_BadValue, fn_ok0 F sc_BadValue rfl rfl fun cdv A outer s H E _ => ⟨_, (pss_one (ps_ost (pv 0) (pv 1))), fun sh => (sat_ost (X.at sh) sat_var sat_var)⟩, F.binds fun _ _ _ _ _ _ us hl => match us, hl with | [_, _], _ => rfl, Fun.kbn F (fun _ _ _ _ _ _ us ws l1 l2 => match us, ws, l1, l2 with | [_], [_], _, _ => rfl) vals_app⟩
abbrev s_BadName : Stmt := inClass (top 3) 0
theorem sc_BadName : FnScope ["self", "value"] ["self", "value"] (defScope s_BadName) := ⟨rfl, rfl, rfl, by decide +kernel, rfl, by decide +kernel, by decide +kernel⟩
theorem ini_BadName {fI : Addr} {fd : FuncData} (X : ExF K ⟨adr, 0⟩ isT naT ncT) (T : Txt K mg adr) (F : L2.Fun K "__init__" "BadName.__init__" s_BadName fI fd) (iC : PySem.W.findIn K (.ref (adr 2)) "__init__" = some (some (.ref fI))) (tI : PySem.W.typeIn K (.ref fI) = some (.type "function")) : Ini P w K mg base adr 2 "BadName" fI fd ["self", "value"] ["value"] 2 f_BadName pm1 :=
  ⟨iC, tI, T.m_BadName, fn_ok0 F sc_BadName rfl rfl fun cdv A outer s H E _ => ⟨_, (pss_one (ps_ost (pv 0) (pv 1))), fun sh => (sat_ost (X.at sh) sat_var sat_var)⟩, F.binds fun _ _ _ _ _ _ us hl => match us, hl with | [_, _], _ => rfl, Fun.kbn F (fun _ _ _ _ _ _ us ws l1 l2 => match us, ws, l1, l2 with | [_], [_], _, _ => rfl) vals_app⟩
abbrev s_BadTold : Stmt := inClass (top 4) 0
theorem sc_BadTold : FnScope ["self", "part"] ["self", "part"] (defScope s_BadTold) := ⟨rfl, rfl, rfl, by decide +kernel, rfl, by decide +kernel, by decide +kernel⟩
theorem ini_BadTold {fI : Addr} {fd : FuncData} (X : ExF K ⟨adr, 0⟩ isT naT ncT) (T : Txt K mg adr) (F : L2.Fun K "__init__" "BadTold.__init__" s_BadTold fI fd) (iC : PySem.W.findIn K (.ref (adr 3)) "__init__" = some (some (.ref fI))) (tI : PySem.W.typeIn K (.ref fI) = some (.type "function")) : Ini P w K mg base adr 3 "BadTold" fI fd ["self", "part"] ["part"] 2 f_BadTold pm1 :=
  ⟨iC, tI, T.m_BadTold, fn_ok0 F sc_BadTold rfl rfl fun cdv A outer s H E _ => ⟨_, (pss_one (ps_ost (pv 0) (pv 1))), fun sh => (sat_ost (X.at sh) sat_var sat_var)⟩, F.binds fun _ _ _ _ _ _ us hl => match us, hl with | [_, _], _ => rfl, Fun.kbn F (fun _ _ _ _ _ _ us ws l1 l2 => match us, ws, l1, l2 with | [_], [_], _, _ => rfl) vals_app⟩
abbrev s_BadHead : Stmt := inClass (top 5) 0
theorem sc_BadHead : FnScope ["self", "part"] ["self", "part"] (defScope s_BadHead) := ⟨rfl, rfl, rfl, by decide +kernel, rfl, by decide +kernel, by decide +kernel⟩
theorem ini_BadHead {fI : Addr} {fd : FuncData} (X : ExF K ⟨adr, 0⟩ isT naT ncT) (T : Txt K mg adr) (F : L2.Fun K "__init__" "BadHead.__init__" s_BadHead fI fd) (iC : PySem.W.findIn K (.ref (adr 4)) "__init__" = some (some (.ref fI))) (tI : PySem.W.typeIn K (.ref fI) = some (.type "function")) : Ini P w K mg base adr 4 "BadHead" fI fd ["self", "part"] ["part"] 2 f_BadHead pm1 :=
  ⟨iC, tI, T.m_BadHead, fn_ok0 F sc_BadHead rfl rfl fun cdv A outer s H E _ => ⟨_, (pss_one (ps_ost (pv 0) (pv 1))), fun sh => (sat_ost (X.at sh) sat_var sat_var)⟩, F.binds fun _ _ _ _ _ _ us hl => match us, hl with | [_, _], _ => rfl, Fun.kbn F (fun _ _ _ _ _ _ us ws l1 l2 => match us, ws, l1, l2 with | [_], [_], _, _ => rfl) vals_app⟩
abbrev s_BadFilter : Stmt := inClass (top 6) 0
theorem sc_BadFilter : FnScope ["self", "part"] ["self", "part"] (defScope s_BadFilter) := ⟨rfl, rfl, rfl, by decide +kernel, rfl, by decide +kernel, by decide +kernel⟩
theorem ini_BadFilter {fI : Addr} {fd : FuncData} (X : ExF K ⟨adr, 0⟩ isT naT ncT) (T : Txt K mg adr) (F : L2.Fun K "__init__" "BadFilter.__init__" s_BadFilter fI fd) (iC : PySem.W.findIn K (.ref (adr 5)) "__init__" = some (some (.ref fI))) (tI : PySem.W.typeIn K (.ref fI) = some (.type "function")) : Ini P w K mg base adr 5 "BadFilter" fI fd ["self", "part"] ["part"] 2 f_BadFilter pm1 :=
  ⟨iC, tI, T.m_BadFilter, fn_ok0 F sc_BadFilter rfl rfl fun cdv A outer s H E _ => ⟨_, (pss_one (ps_ost (pv 0) (pv 1))), fun sh => (sat_ost (X.at sh) sat_var sat_var)⟩, F.binds fun _ _ _ _ _ _ us hl => match us, hl with | [_, _], _ => rfl, Fun.kbn F (fun _ _ _ _ _ _ us ws l1 l2 => match us, ws, l1, l2 with | [_], [_], _, _ => rfl) vals_app⟩
abbrev s_BadRow : Stmt := inClass (top 7) 0
theorem sc_BadRow : FnScope ["self", "part"] ["self", "part"] (defScope s_BadRow) := ⟨rfl, rfl, rfl, by decide +kernel, rfl, by decide +kernel, by decide +kernel⟩
theorem ini_BadRow {fI : Addr} {fd : FuncData} (X : ExF K ⟨adr, 0⟩ isT naT ncT) (T : Txt K mg adr) (F : L2.Fun K "__init__" "BadRow.__init__" s_BadRow fI fd) (iC : PySem.W.findIn K (.ref (adr 6)) "__init__" = some (some (.ref fI))) (tI : PySem.W.typeIn K (.ref fI) = some (.type "function")) : Ini P w K mg base adr 6 "BadRow" fI fd ["self", "part"] ["part"] 2 f_BadRow pm1 :=
  ⟨iC, tI, T.m_BadRow, fn_ok0 F sc_BadRow rfl rfl fun cdv A outer s H E _ => ⟨_, (pss_one (ps_ost (pv 0) (pv 1))), fun sh => (sat_ost (X.at sh) sat_var sat_var)⟩, F.binds fun _ _ _ _ _ _ us hl => match us, hl with | [_, _], _ => rfl, Fun.kbn F (fun _ _ _ _ _ _ us ws l1 l2 => match us, ws, l1, l2 with | [_], [_], _, _ => rfl) vals_app⟩
abbrev s_BadLots : Stmt := inClass (top 8) 0
theorem sc_BadLots : FnScope ["self", "part"] ["self", "part"] (defScope s_BadLots) := ⟨rfl, rfl, rfl, by decide +kernel, rfl, by decide +kernel, by decide +kernel⟩
theorem ini_BadLots {fI : Addr} {fd : FuncData} (X : ExF K ⟨adr, 0⟩ isT naT ncT) (T : Txt K mg adr) (F : L2.Fun K "__init__" "BadLots.__init__" s_BadLots fI fd) (iC : PySem.W.findIn K (.ref (adr 7)) "__init__" = some (some (.ref fI))) (tI : PySem.W.typeIn K (.ref fI) = some (.type "function")) : Ini P w K mg base adr 7 "BadLots" fI fd ["self", "part"] ["part"] 2 f_BadLots pm1 :=
  ⟨iC, tI, T.m_BadLots, fn_ok0 F sc_BadLots rfl rfl fun cdv A outer s H E _ => ⟨_, (pss_one (ps_ost (pv 0) (pv 1))), fun sh => (sat_ost (X.at sh) sat_var sat_var)⟩, F.binds fun _ _ _ _ _ _ us hl => match us, hl with | [_, _], _ => rfl, Fun.kbn F (fun _ _ _ _ _ _ us ws l1 l2 => match us, ws, l1, l2 with | [_], [_], _, _ => rfl) vals_app⟩
abbrev s_BadShelf : Stmt := inClass (top 9) 0
theorem sc_BadShelf : FnScope ["self", "part"] ["self", "part"] (defScope s_BadShelf) := ⟨rfl, rfl, rfl, by decide +kernel, rfl, by decide +kernel, by decide +kernel⟩
theorem ini_BadShelf {fI : Addr} {fd : FuncData} (X : ExF K ⟨adr, 0⟩ isT naT ncT) (T : Txt K mg adr) (F : L2.Fun K "__init__" "BadShelf.__init__" s_BadShelf fI fd) (iC : PySem.W.findIn K (.ref (adr 8)) "__init__" = some (some (.ref fI))) (tI : PySem.W.typeIn K (.ref fI) = some (.type "function")) : Ini P w K mg base adr 8 "BadShelf" fI fd ["self", "part"] ["part"] 2 f_BadShelf pm1 :=
  ⟨iC, tI, T.m_BadShelf, fn_ok0 F sc_BadShelf rfl rfl fun cdv A outer s H E _ => ⟨_, (pss_one (ps_ost (pv 0) (pv 1))), fun sh => (sat_ost (X.at sh) sat_var sat_var)⟩, F.binds fun _ _ _ _ _ _ us hl => match us, hl with | [_, _], _ => rfl, Fun.kbn F (fun _ _ _ _ _ _ us ws l1 l2 => match us, ws, l1, l2 with | [_], [_], _, _ => rfl) vals_app⟩
abbrev s_BadTable : Stmt := inClass (top 10) 0
theorem sc_BadTable : FnScope ["self", "at"] ["self", "at"] (defScope s_BadTable) := ⟨rfl, rfl, rfl, by decide +kernel, rfl, by decide +kernel, by decide +kernel⟩
theorem ini_BadTable {fI : Addr} {fd : FuncData} (X : ExF K ⟨adr, 0⟩ isT naT ncT) (T : Txt K mg adr) (F : L2.Fun K "__init__" "BadTable.__init__" s_BadTable fI fd) (iC : PySem.W.findIn K (.ref (adr 9)) "__init__" = some (some (.ref fI))) (tI : PySem.W.typeIn K (.ref fI) = some (.type "function")) : Ini P w K mg base adr 9 "BadTable" fI fd ["self", "at"] ["at"] 2 f_BadTable pm1 :=
  ⟨iC, tI, T.m_BadTable, fn_ok0 F sc_BadTable rfl rfl fun cdv A outer s H E _ => ⟨_, (pss_one (ps_ost (pv 0) (pv 1))), fun sh => (sat_ost (X.at sh) sat_var sat_var)⟩, F.binds fun _ _ _ _ _ _ us hl => match us, hl with | [_, _], _ => rfl, Fun.kbn F (fun _ _ _ _ _ _ us ws l1 l2 => match us, ws, l1, l2 with | [_], [_], _, _ => rfl) vals_app⟩
abbrev s_BadQuestion : Stmt := inClass (top 11) 0
theorem sc_BadQuestion : FnScope ["self", "part"] ["self", "part"] (defScope s_BadQuestion) := ⟨rfl, rfl, rfl, by decide +kernel, rfl, by decide +kernel, by decide +kernel⟩
theorem ini_BadQuestion {fI : Addr} {fd : FuncData} (X : ExF K ⟨adr, 0⟩ isT naT ncT) (T : Txt K mg adr) (F : L2.Fun K "__init__" "BadQuestion.__init__" s_BadQuestion fI fd) (iC : PySem.W.findIn K (.ref (adr 10)) "__init__" = some (some (.ref fI))) (tI : PySem.W.typeIn K (.ref fI) = some (.type "function")) : Ini P w K mg base adr 10 "BadQuestion" fI fd ["self", "part"] ["part"] 2 f_BadQuestion pm1 :=
  ⟨iC, tI, T.m_BadQuestion, fn_ok0 F sc_BadQuestion rfl rfl fun cdv A outer s H E _ => ⟨_, (pss_one (ps_ost (pv 0) (pv 1))), fun sh => (sat_ost (X.at sh) sat_var sat_var)⟩, F.binds fun _ _ _ _ _ _ us hl => match us, hl with | [_, _], _ => rfl, Fun.kbn F (fun _ _ _ _ _ _ us ws l1 l2 => match us, ws, l1, l2 with | [_], [_], _, _ => rfl) vals_app⟩
abbrev s_BadRead : Stmt := inClass (top 12) 0
theorem sc_BadRead : FnScope ["self", "at"] ["self", "at"] (defScope s_BadRead) := ⟨rfl, rfl, rfl, by decide +kernel, rfl, by decide +kernel, by decide +kernel⟩
theorem ini_BadRead {fI : Addr} {fd : FuncData} (X : ExF K ⟨adr, 0⟩ isT naT ncT) (T : Txt K mg adr) (F : L2.Fun K "__init__" "BadRead.__init__" s_BadRead fI fd) (iC : PySem.W.findIn K (.ref (adr 11)) "__init__" = some (some (.ref fI))) (tI : PySem.W.typeIn K (.ref fI) = some (.type "function")) : Ini P w K mg base adr 11 "BadRead" fI fd ["self", "at"] ["at"] 2 f_BadRead pm1 :=
  ⟨iC, tI, T.m_BadRead, fn_ok0 F sc_BadRead rfl rfl fun cdv A outer s H E _ => ⟨_, (pss_one (ps_ost (pv 0) (pv 1))), fun sh => (sat_ost (X.at sh) sat_var sat_var)⟩, F.binds fun _ _ _ _ _ _ us hl => match us, hl with | [_, _], _ => rfl, Fun.kbn F (fun _ _ _ _ _ _ us ws l1 l2 => match us, ws, l1, l2 with | [_], [_], _, _ => rfl) vals_app⟩
abbrev s_BadUpkeep : Stmt := inClass (top 13) 0
theorem sc_BadUpkeep : FnScope ["self", "part"] ["self", "part"] (defScope s_BadUpkeep) := ⟨rfl, rfl, rfl, by decide +kernel, rfl, by decide +kernel, by decide +kernel⟩
theorem ini_BadUpkeep {fI : Addr} {fd : FuncData} (X : ExF K ⟨adr, 0⟩ isT naT ncT) (T : Txt K mg adr) (F : L2.Fun K "__init__" "BadUpkeep.__init__" s_BadUpkeep fI fd) (iC : PySem.W.findIn K (.ref (adr 12)) "__init__" = some (some (.ref fI))) (tI : PySem.W.typeIn K (.ref fI) = some (.type "function")) : Ini P w K mg base adr 12 "BadUpkeep" fI fd ["self", "part"] ["part"] 2 f_BadUpkeep pm1 :=
  ⟨iC, tI, T.m_BadUpkeep, fn_ok0 F sc_BadUpkeep rfl rfl fun cdv A outer s H E _ => ⟨_, (pss_one (ps_ost (pv 0) (pv 1))), fun sh => (sat_ost (X.at sh) sat_var sat_var)⟩, F.binds fun _ _ _ _ _ _ us hl => match us, hl with | [_, _], _ => rfl, Fun.kbn F (fun _ _ _ _ _ _ us ws l1 l2 => match us, ws, l1, l2 with | [_], [_], _, _ => rfl) vals_app⟩
abbrev s_BadBook : Stmt := inClass (top 14) 0
theorem sc_BadBook : FnScope ["self", "part"] ["self", "part"] (defScope s_BadBook) := ⟨rfl, rfl, rfl, by decide +kernel, rfl, by decide +kernel, by decide +kernel⟩
theorem ini_BadBook {fI : Addr} {fd : FuncData} (X : ExF K ⟨adr, 0⟩ isT naT ncT) (T : Txt K mg adr) (F : L2.Fun K "__init__" "BadBook.__init__" s_BadBook fI fd) (iC : PySem.W.findIn K (.ref (adr 13)) "__init__" = some (some (.ref fI))) (tI : PySem.W.typeIn K (.ref fI) = some (.type "function")) : Ini P w K mg base adr 13 "BadBook" fI fd ["self", "part"] ["part"] 2 f_BadBook pm1 :=
  ⟨iC, tI, T.m_BadBook, fn_ok0 F sc_BadBook rfl rfl fun cdv A outer s H E _ => ⟨_, (pss_one (ps_ost (pv 0) (pv 1))), fun sh => (sat_ost (X.at sh) sat_var sat_var)⟩, F.binds fun _ _ _ _ _ _ us hl => match us, hl with | [_, _], _ => rfl, Fun.kbn F (fun _ _ _ _ _ _ us ws l1 l2 => match us, ws, l1, l2 with | [_], [_], _, _ => rfl) vals_app⟩
abbrev s_BadText : Stmt := inClass (top 15) 0
theorem sc_BadText : FnScope ["self", "line", "word"] ["self", "line", "word"] (defScope s_BadText) := ⟨rfl, rfl, rfl, by decide +kernel, rfl, by decide +kernel, by decide +kernel⟩
theorem ini_BadText {fI : Addr} {fd : FuncData} (X : ExF K ⟨adr, 0⟩ isT naT ncT) (T : Txt K mg adr) (F : L2.Fun K "__init__" "BadText.__init__" s_BadText fI fd) (iC : PySem.W.findIn K (.ref (adr 14)) "__init__" = some (some (.ref fI))) (tI : PySem.W.typeIn K (.ref fI) = some (.type "function")) : Ini P w K mg base adr 14 "BadText" fI fd ["self", "line", "word"] ["word", "line"] 3 f_BadText pm2 :=
  ⟨iC, tI, T.m_BadText, fn_ok0 F sc_BadText rfl rfl fun cdv A outer s H E _ => ⟨_, (pss_cons (ps_ost (pv 0) (pv 1)) (pss_one (ps_ost (pv 0) (pv 2)))), fun sh => (sat_seq (sat_ost (X.at sh) sat_var sat_var) (sat_ost (X.at sh) sat_var sat_var))⟩, F.binds fun _ _ _ _ _ _ us hl => match us, hl with | [_, _, _], _ => rfl, Fun.kbn F (fun _ _ _ _ _ _ us ws l1 l2 => match us, ws, l1, l2 with | [_], [_, _], _, _ => rfl) vals_rev⟩
abbrev s_BadLine : Stmt := inClass (top 16) 0
theorem sc_BadLine : FnScope ["self", "word"] ["self", "word"] (defScope s_BadLine) := ⟨rfl, rfl, rfl, by decide +kernel, rfl, by decide +kernel, by decide +kernel⟩
theorem ini_BadLine {fI : Addr} {fd : FuncData} (X : ExF K ⟨adr, 0⟩ isT naT ncT) (T : Txt K mg adr) (F : L2.Fun K "__init__" "BadLine.__init__" s_BadLine fI fd) (iC : PySem.W.findIn K (.ref (adr 15)) "__init__" = some (some (.ref fI))) (tI : PySem.W.typeIn K (.ref fI) = some (.type "function")) : Ini P w K mg base adr 15 "BadLine" fI fd ["self", "word"] ["word"] 2 f_BadLine pm1 :=
  ⟨iC, tI, T.m_BadLine, fn_ok0 F sc_BadLine rfl rfl fun cdv A outer s H E _ => ⟨_, (pss_one (ps_ost (pv 0) (pv 1))), fun sh => (sat_ost (X.at sh) sat_var sat_var)⟩, F.binds fun _ _ _ _ _ _ us hl => match us, hl with | [_, _], _ => rfl, Fun.kbn F (fun _ _ _ _ _ _ us ws l1 l2 => match us, ws, l1, l2 with | [_], [_], _, _ => rfl) vals_app⟩
abbrev s_NoName : Stmt := inClass (top 17) 0
theorem sc_NoName : FnScope ["self", "name"] ["self", "name"] (defScope s_NoName) := ⟨rfl, rfl, rfl, by decide +kernel, rfl, by decide +kernel, by decide +kernel⟩
theorem ini_NoName {fI : Addr} {fd : FuncData} (X : ExF K ⟨adr, 0⟩ isT naT ncT) (T : Txt K mg adr) (F : L2.Fun K "__init__" "NoName.__init__" s_NoName fI fd) (iC : PySem.W.findIn K (.ref (adr 16)) "__init__" = some (some (.ref fI))) (tI : PySem.W.typeIn K (.ref fI) = some (.type "function")) : Ini P w K mg base adr 16 "NoName" fI fd ["self", "name"] ["name"] 2 f_NoName pm1 :=
  ⟨iC, tI, T.m_NoName, fn_ok0 F sc_NoName rfl rfl fun cdv A outer s H E _ => ⟨_, (pss_one (ps_ost (pv 0) (pv 1))), fun sh => (sat_ost (X.at sh) sat_var sat_var)⟩, F.binds fun _ _ _ _ _ _ us hl => match us, hl with | [_, _], _ => rfl, Fun.kbn F (fun _ _ _ _ _ _ us ws l1 l2 => match us, ws, l1, l2 with | [_], [_], _, _ => rfl) vals_app⟩
abbrev s_NoBlock : Stmt := inClass (top 18) 0
theorem sc_NoBlock : FnScope ["self", "at"] ["self", "at"] (defScope s_NoBlock) := ⟨rfl, rfl, rfl, by decide +kernel, rfl, by decide +kernel, by decide +kernel⟩
theorem ini_NoBlock {fI : Addr} {fd : FuncData} (X : ExF K ⟨adr, 0⟩ isT naT ncT) (T : Txt K mg adr) (F : L2.Fun K "__init__" "NoBlock.__init__" s_NoBlock fI fd) (iC : PySem.W.findIn K (.ref (adr 17)) "__init__" = some (some (.ref fI))) (tI : PySem.W.typeIn K (.ref fI) = some (.type "function")) : Ini P w K mg base adr 17 "NoBlock" fI fd ["self", "at"] ["at"] 2 f_NoBlock pm1 :=
  ⟨iC, tI, T.m_NoBlock, fn_ok0 F sc_NoBlock rfl rfl fun cdv A outer s H E _ => ⟨_, (pss_one (ps_ost (pv 0) (pv 1))), fun sh => (sat_ost (X.at sh) sat_var sat_var)⟩, F.binds fun _ _ _ _ _ _ us hl => match us, hl with | [_, _], _ => rfl, Fun.kbn F (fun _ _ _ _ _ _ us ws l1 l2 => match us, ws, l1, l2 with | [_], [_], _, _ => rfl) vals_app⟩
abbrev s_NoCount : Stmt := inClass (top 19) 0
theorem sc_NoCount : FnScope ["self", "many"] ["self", "many"] (defScope s_NoCount) := ⟨rfl, rfl, rfl, by decide +kernel, rfl, by decide +kernel, by decide +kernel⟩
theorem ini_NoCount {fI : Addr} {fd : FuncData} (X : ExF K ⟨adr, 0⟩ isT naT ncT) (T : Txt K mg adr) (F : L2.Fun K "__init__" "NoCount.__init__" s_NoCount fI fd) (iC : PySem.W.findIn K (.ref (adr 18)) "__init__" = some (some (.ref fI))) (tI : PySem.W.typeIn K (.ref fI) = some (.type "function")) : Ini P w K mg base adr 18 "NoCount" fI fd ["self", "many"] ["many"] 2 f_NoCount pm1 :=
  ⟨iC, tI, T.m_NoCount, fn_ok0 F sc_NoCount rfl rfl fun cdv A outer s H E _ => ⟨_, (pss_one (ps_ost (pv 0) (pv 1))), fun sh => (sat_ost (X.at sh) sat_var sat_var)⟩, F.binds fun _ _ _ _ _ _ us hl => match us, hl with | [_, _], _ => rfl, Fun.kbn F (fun _ _ _ _ _ _ us ws l1 l2 => match us, ws, l1, l2 with | [_], [_], _, _ => rfl) vals_app⟩
abbrev s_Taken : Stmt := inClass (top 20) 0
theorem sc_Taken : FnScope ["self", "name"] ["self", "name"] (defScope s_Taken) := ⟨rfl, rfl, rfl, by decide +kernel, rfl, by decide +kernel, by decide +kernel⟩
theorem ini_Taken {fI : Addr} {fd : FuncData} (X : ExF K ⟨adr, 0⟩ isT naT ncT) (T : Txt K mg adr) (F : L2.Fun K "__init__" "Taken.__init__" s_Taken fI fd) (iC : PySem.W.findIn K (.ref (adr 19)) "__init__" = some (some (.ref fI))) (tI : PySem.W.typeIn K (.ref fI) = some (.type "function")) : Ini P w K mg base adr 19 "Taken" fI fd ["self", "name"] ["name"] 2 f_Taken pm1 :=
  ⟨iC, tI, T.m_Taken, fn_ok0 F sc_Taken rfl rfl fun cdv A outer s H E _ => ⟨_, (pss_one (ps_ost (pv 0) (pv 1))), fun sh => (sat_ost (X.at sh) sat_var sat_var)⟩, F.binds fun _ _ _ _ _ _ us hl => match us, hl with | [_, _], _ => rfl, Fun.kbn F (fun _ _ _ _ _ _ us ws l1 l2 => match us, ws, l1, l2 with | [_], [_], _, _ => rfl) vals_app⟩
abbrev s_TooMany : Stmt := inClass (top 21) 0
theorem sc_TooMany : FnScope ["self", "what", "most"] ["self", "what", "most"] (defScope s_TooMany) := ⟨rfl, rfl, rfl, by decide +kernel, rfl, by decide +kernel, by decide +kernel⟩
theorem ini_TooMany {fI : Addr} {fd : FuncData} (X : ExF K ⟨adr, 0⟩ isT naT ncT) (T : Txt K mg adr) (F : L2.Fun K "__init__" "TooMany.__init__" s_TooMany fI fd) (iC : PySem.W.findIn K (.ref (adr 20)) "__init__" = some (some (.ref fI))) (tI : PySem.W.typeIn K (.ref fI) = some (.type "function")) : Ini P w K mg base adr 20 "TooMany" fI fd ["self", "what", "most"] ["what", "most"] 3 f_TooMany pm1 :=
  ⟨iC, tI, T.m_TooMany, fn_ok0 F sc_TooMany rfl rfl fun cdv A outer s H E _ => ⟨_, (pss_cons (ps_ost (pv 0) (pv 1)) (pss_one (ps_ost (pv 0) (pv 2)))), fun sh => (sat_seq (sat_ost (X.at sh) sat_var sat_var) (sat_ost (X.at sh) sat_var sat_var))⟩, F.binds fun _ _ _ _ _ _ us hl => match us, hl with | [_, _, _], _ => rfl, Fun.kbn F (fun _ _ _ _ _ _ us ws l1 l2 => match us, ws, l1, l2 with | [_], [_, _], _, _ => rfl) vals_app⟩
abbrev s_law_pen : Stmt := top 24
abbrev s_law_draw : Stmt := top 25
abbrev s_law_pick : Stmt := top 26
abbrev s_law_value : Stmt := top 27
abbrev s_law_made : Stmt := top 28
abbrev s_law_fields : Stmt := top 29
abbrev s_law_classes : Stmt := top 30
abbrev s_law : Stmt := top 31
theorem sc_law_value : FnScope ["_law_pen_here", "_law_some"] ["_law_pen_here"] (defScope s_law_value) := ⟨rfl, rfl, rfl, by decide +kernel, rfl, by decide +kernel, by decide +kernel⟩
theorem ok_law_value {fa : Addr} {fd : FuncData} {fP : Addr} {dP : FuncData} (X : ExF K ⟨adr, 0⟩ isT naT ncT) (T : Txt K mg adr) (G__law_pick : FnOkG P w K mg base CX0 2 fP dP ["_law_pen_here", "_law_some"] (spPick adr)) (B__law_pick : DefB K mg "_law_pick" fP dP ["_law_pen_here", "_law_some"]) (F : L2.Fun K "_law_value" "_law_value" s_law_value fa fd) : FnOkG P w K mg base CX0 3 fa fd ["_law_pen_here"] (spF adr 1 1 f_law_value) := by
  refine fn_ok (k := 2) F sc_law_value rfl rfl fun cdv A outer s H E hr => ?_
  have hrr := hr.toRoom
  exact ⟨_, (pss_cons (ps_set (i := 1) sc_law_value.nd rfl (Or.inl rfl) (pe_lst (pa_cons pe_non (pa_cons pe_bl (pa_cons pe_int (pa_cons (pe_un un_neg pe_int) (pa_cons (pe_op op_pow pe_int pe_int) (pa_cons pe_str (pa_cons pe_str (pa_cons pe_str (pa_cons (pe_tup pa_nil) (pa_cons (pe_tup (pa_cons pe_str (pa_cons pe_int pa_nil))) (pa_cons (pe_lst pa_nil) (pa_cons pe_dnewK (pa_cons pe_bl pa_nil))))))))))))))) (pss_one (ps_ret (pe_callG G__law_pick (hr.mono (by decide)) (by rfl) B__law_pick.m B__law_pick.k B__law_pick.b .nil pass0 (pa_cons (pv 0) (pa_cons (pv 1) pa_nil)))))), fun sh => (sat_seq (sat_asg (sat_lst (sat_cons sat_non (sat_cons sat_bl (sat_cons sat_int (sat_cons (sat_neg sat_int) (sat_cons (sat_op sat_pow sat_int sat_int) (sat_cons sat_str (sat_cons sat_str (sat_cons sat_str (sat_cons (sat_tup sat_nil) (sat_cons (sat_tup (sat_cons sat_str (sat_cons sat_int sat_nil))) (sat_cons (sat_lst sat_nil) (sat_cons sat_dnew (sat_cons sat_bl sat_nil)))))))))))))) sat_gname) (sat_ret (sat_pick (sat_cons sat_var (sat_cons sat_var sat_nil)))))⟩
theorem sc_law_made : FnScope ["_law_one", "_law_two", "_law_found"] ["_law_one", "_law_two"] (defScope s_law_made) := ⟨rfl, rfl, rfl, by decide +kernel, rfl, by decide +kernel, by decide +kernel⟩
theorem ok_law_made {fa : Addr} {fd : FuncData} {i_BadValue : Addr} {d_BadValue : FuncData} {i_BadName : Addr} {d_BadName : FuncData} {i_BadTold : Addr} {d_BadTold : FuncData} {i_BadHead : Addr} {d_BadHead : FuncData} {i_BadFilter : Addr} {d_BadFilter : FuncData} {i_BadRow : Addr} {d_BadRow : FuncData} {i_BadLots : Addr} {d_BadLots : FuncData} {i_BadShelf : Addr} {d_BadShelf : FuncData} {i_BadTable : Addr} {d_BadTable : FuncData} {i_BadQuestion : Addr} {d_BadQuestion : FuncData} {i_BadRead : Addr} {d_BadRead : FuncData} {i_BadUpkeep : Addr} {d_BadUpkeep : FuncData} {i_BadBook : Addr} {d_BadBook : FuncData} {i_BadText : Addr} {d_BadText : FuncData} {i_BadLine : Addr} {d_BadLine : FuncData} {i_NoName : Addr} {d_NoName : FuncData} {i_NoBlock : Addr} {d_NoBlock : FuncData} {i_NoCount : Addr} {d_NoCount : FuncData} {i_Taken : Addr} {d_Taken : FuncData} {i_TooMany : Addr} {d_TooMany : FuncData} (X : ExF K ⟨adr, 0⟩ isT naT ncT) (T : Txt K mg adr) (I_BadValue : Ini P w K mg base adr 1 "BadValue" i_BadValue d_BadValue ["self", "value"] ["value"] 2 f_BadValue pm1) (I_BadName : Ini P w K mg base adr 2 "BadName" i_BadName d_BadName ["self", "value"] ["value"] 2 f_BadName pm1) (I_BadTold : Ini P w K mg base adr 3 "BadTold" i_BadTold d_BadTold ["self", "part"] ["part"] 2 f_BadTold pm1) (I_BadHead : Ini P w K mg base adr 4 "BadHead" i_BadHead d_BadHead ["self", "part"] ["part"] 2 f_BadHead pm1) (I_BadFilter : Ini P w K mg base adr 5 "BadFilter" i_BadFilter d_BadFilter ["self", "part"] ["part"] 2 f_BadFilter pm1) (I_BadRow : Ini P w K mg base adr 6 "BadRow" i_BadRow d_BadRow ["self", "part"] ["part"] 2 f_BadRow pm1) (I_BadLots : Ini P w K mg base adr 7 "BadLots" i_BadLots d_BadLots ["self", "part"] ["part"] 2 f_BadLots pm1) (I_BadShelf : Ini P w K mg base adr 8 "BadShelf" i_BadShelf d_BadShelf ["self", "part"] ["part"] 2 f_BadShelf pm1) (I_BadTable : Ini P w K mg base adr 9 "BadTable" i_BadTable d_BadTable ["self", "at"] ["at"] 2 f_BadTable pm1) (I_BadQuestion : Ini P w K mg base adr 10 "BadQuestion" i_BadQuestion d_BadQuestion ["self", "part"] ["part"] 2 f_BadQuestion pm1) (I_BadRead : Ini P w K mg base adr 11 "BadRead" i_BadRead d_BadRead ["self", "at"] ["at"] 2 f_BadRead pm1) (I_BadUpkeep : Ini P w K mg base adr 12 "BadUpkeep" i_BadUpkeep d_BadUpkeep ["self", "part"] ["part"] 2 f_BadUpkeep pm1) (I_BadBook : Ini P w K mg base adr 13 "BadBook" i_BadBook d_BadBook ["self", "part"] ["part"] 2 f_BadBook pm1) (I_BadText : Ini P w K mg base adr 14 "BadText" i_BadText d_BadText ["self", "line", "word"] ["word", "line"] 3 f_BadText pm2) (I_BadLine : Ini P w K mg base adr 15 "BadLine" i_BadLine d_BadLine ["self", "word"] ["word"] 2 f_BadLine pm1) (I_NoName : Ini P w K mg base adr 16 "NoName" i_NoName d_NoName ["self", "name"] ["name"] 2 f_NoName pm1) (I_NoBlock : Ini P w K mg base adr 17 "NoBlock" i_NoBlock d_NoBlock ["self", "at"] ["at"] 2 f_NoBlock pm1) (I_NoCount : Ini P w K mg base adr 18 "NoCount" i_NoCount d_NoCount ["self", "many"] ["many"] 2 f_NoCount pm1) (I_Taken : Ini P w K mg base adr 19 "Taken" i_Taken d_Taken ["self", "name"] ["name"] 2 f_Taken pm1) (I_TooMany : Ini P w K mg base adr 20 "TooMany" i_TooMany d_TooMany ["self", "what", "most"] ["what", "most"] 3 f_TooMany pm1) (F : L2.Fun K "_law_made" "_law_made" s_law_made fa fd) : FnOkG P w K mg base CX0 3 fa fd ["_law_one", "_law_two"] (spF adr 2 1 f_law_made) := by
  refine fn_ok (k := 2) F sc_law_made rfl rfl fun cdv A outer s H E hr => ?_
  have hrr := hr.toRoom
  exact ⟨_, (pss_cons (ps_set (i := 2) sc_law_made.nd rfl (Or.inl rfl) (pe_lst (pa_cons (pe_tup (pa_cons (pe_exv (X.oex 1 (by decide)) I_BadValue.iC I_BadValue.tI I_BadValue.F1 (hrr.mono (by decide)) I_BadValue.b .nil pass0 (by rfl) I_BadValue.mC (pa_cons (pv 0) pa_nil)) (pa_cons pe_str (pa_cons (pe_lst (pa_cons (pv 0) pa_nil)) pa_nil)))) (pa_cons (pe_tup (pa_cons (pe_exk (X.oex 2 (by decide)) I_BadName.iC I_BadName.tI I_BadName.F1 (hrr.mono (by decide)) I_BadName.kb pass0 (by rfl) I_BadName.mC (pk_cons (pv 0) pk_nil)) (pa_cons pe_str (pa_cons (pe_lst (pa_cons (pv 0) pa_nil)) pa_nil)))) (pa_cons (pe_tup (pa_cons (pe_exv (X.oex 3 (by decide)) I_BadTold.iC I_BadTold.tI I_BadTold.F1 (hrr.mono (by decide)) I_BadTold.b .nil pass0 (by rfl) I_BadTold.mC (pa_cons (pv 0) pa_nil)) (pa_cons pe_str (pa_cons (pe_lst (pa_cons (pv 0) pa_nil)) pa_nil)))) pa_nil))))) (pss_cons (ps_set (i := 2) sc_law_made.nd rfl (Or.inl rfl) (pe_op op_cat (pv 2) (pe_lst (pa_cons (pe_tup (pa_cons (pe_exk (X.oex 4 (by decide)) I_BadHead.iC I_BadHead.tI I_BadHead.F1 (hrr.mono (by decide)) I_BadHead.kb pass0 (by rfl) I_BadHead.mC (pk_cons (pv 0) pk_nil)) (pa_cons pe_str (pa_cons (pe_lst (pa_cons (pv 0) pa_nil)) pa_nil)))) (pa_cons (pe_tup (pa_cons (pe_exv (X.oex 5 (by decide)) I_BadFilter.iC I_BadFilter.tI I_BadFilter.F1 (hrr.mono (by decide)) I_BadFilter.b .nil pass0 (by rfl) I_BadFilter.mC (pa_cons (pv 0) pa_nil)) (pa_cons pe_str (pa_cons (pe_lst (pa_cons (pv 0) pa_nil)) pa_nil)))) (pa_cons (pe_tup (pa_cons (pe_exv (X.oex 6 (by decide)) I_BadRow.iC I_BadRow.tI I_BadRow.F1 (hrr.mono (by decide)) I_BadRow.b .nil pass0 (by rfl) I_BadRow.mC (pa_cons (pv 0) pa_nil)) (pa_cons pe_str (pa_cons (pe_lst (pa_cons (pv 0) pa_nil)) pa_nil)))) pa_nil)))))) (pss_cons (ps_set (i := 2) sc_law_made.nd rfl (Or.inl rfl) (pe_op op_cat (pv 2) (pe_lst (pa_cons (pe_tup (pa_cons (pe_exv (X.oex 7 (by decide)) I_BadLots.iC I_BadLots.tI I_BadLots.F1 (hrr.mono (by decide)) I_BadLots.b .nil pass0 (by rfl) I_BadLots.mC (pa_cons (pv 0) pa_nil)) (pa_cons pe_str (pa_cons (pe_lst (pa_cons (pv 0) pa_nil)) pa_nil)))) (pa_cons (pe_tup (pa_cons (pe_exk (X.oex 8 (by decide)) I_BadShelf.iC I_BadShelf.tI I_BadShelf.F1 (hrr.mono (by decide)) I_BadShelf.kb pass0 (by rfl) I_BadShelf.mC (pk_cons (pv 0) pk_nil)) (pa_cons pe_str (pa_cons (pe_lst (pa_cons (pv 0) pa_nil)) pa_nil)))) (pa_cons (pe_tup (pa_cons (pe_exv (X.oex 9 (by decide)) I_BadTable.iC I_BadTable.tI I_BadTable.F1 (hrr.mono (by decide)) I_BadTable.b .nil pass0 (by rfl) I_BadTable.mC (pa_cons (pv 0) pa_nil)) (pa_cons pe_str (pa_cons (pe_lst (pa_cons (pv 0) pa_nil)) pa_nil)))) pa_nil)))))) (pss_cons (ps_set (i := 2) sc_law_made.nd rfl (Or.inl rfl) (pe_op op_cat (pv 2) (pe_lst (pa_cons (pe_tup (pa_cons (pe_exv (X.oex 10 (by decide)) I_BadQuestion.iC I_BadQuestion.tI I_BadQuestion.F1 (hrr.mono (by decide)) I_BadQuestion.b .nil pass0 (by rfl) I_BadQuestion.mC (pa_cons (pv 0) pa_nil)) (pa_cons pe_str (pa_cons (pe_lst (pa_cons (pv 0) pa_nil)) pa_nil)))) (pa_cons (pe_tup (pa_cons (pe_exk (X.oex 11 (by decide)) I_BadRead.iC I_BadRead.tI I_BadRead.F1 (hrr.mono (by decide)) I_BadRead.kb pass0 (by rfl) I_BadRead.mC (pk_cons (pv 0) pk_nil)) (pa_cons pe_str (pa_cons (pe_lst (pa_cons (pv 0) pa_nil)) pa_nil)))) (pa_cons (pe_tup (pa_cons (pe_exv (X.oex 12 (by decide)) I_BadUpkeep.iC I_BadUpkeep.tI I_BadUpkeep.F1 (hrr.mono (by decide)) I_BadUpkeep.b .nil pass0 (by rfl) I_BadUpkeep.mC (pa_cons (pv 0) pa_nil)) (pa_cons pe_str (pa_cons (pe_lst (pa_cons (pv 0) pa_nil)) pa_nil)))) pa_nil)))))) (pss_cons (ps_set (i := 2) sc_law_made.nd rfl (Or.inl rfl) (pe_op op_cat (pv 2) (pe_lst (pa_cons (pe_tup (pa_cons (pe_exv (X.oex 13 (by decide)) I_BadBook.iC I_BadBook.tI I_BadBook.F1 (hrr.mono (by decide)) I_BadBook.b .nil pass0 (by rfl) I_BadBook.mC (pa_cons (pv 0) pa_nil)) (pa_cons pe_str (pa_cons (pe_lst (pa_cons (pv 0) pa_nil)) pa_nil)))) (pa_cons (pe_tup (pa_cons (pe_exk (X.oex 14 (by decide)) I_BadText.iC I_BadText.tI I_BadText.F1 (hrr.mono (by decide)) I_BadText.kb pass0 (by rfl) I_BadText.mC (pk_cons (pv 1) (pk_cons (pv 0) pk_nil))) (pa_cons pe_str (pa_cons (pe_lst (pa_cons (pv 0) (pa_cons (pv 1) pa_nil))) pa_nil)))) pa_nil))))) (pss_cons (ps_set (i := 2) sc_law_made.nd rfl (Or.inl rfl) (pe_op op_cat (pv 2) (pe_lst (pa_cons (pe_tup (pa_cons (pe_exv (X.oex 15 (by decide)) I_BadLine.iC I_BadLine.tI I_BadLine.F1 (hrr.mono (by decide)) I_BadLine.b .nil pass0 (by rfl) I_BadLine.mC (pa_cons (pv 0) pa_nil)) (pa_cons pe_str (pa_cons (pe_lst (pa_cons (pv 0) pa_nil)) pa_nil)))) (pa_cons (pe_tup (pa_cons (pe_exk (X.oex 16 (by decide)) I_NoName.iC I_NoName.tI I_NoName.F1 (hrr.mono (by decide)) I_NoName.kb pass0 (by rfl) I_NoName.mC (pk_cons (pv 0) pk_nil)) (pa_cons pe_str (pa_cons (pe_lst (pa_cons (pv 0) pa_nil)) pa_nil)))) (pa_cons (pe_tup (pa_cons (pe_exv (X.oex 17 (by decide)) I_NoBlock.iC I_NoBlock.tI I_NoBlock.F1 (hrr.mono (by decide)) I_NoBlock.b .nil pass0 (by rfl) I_NoBlock.mC (pa_cons (pv 0) pa_nil)) (pa_cons pe_str (pa_cons (pe_lst (pa_cons (pv 0) pa_nil)) pa_nil)))) pa_nil)))))) (pss_cons (ps_set (i := 2) sc_law_made.nd rfl (Or.inl rfl) (pe_op op_cat (pv 2) (pe_lst (pa_cons (pe_tup (pa_cons (pe_exk (X.oex 18 (by decide)) I_NoCount.iC I_NoCount.tI I_NoCount.F1 (hrr.mono (by decide)) I_NoCount.kb pass0 (by rfl) I_NoCount.mC (pk_cons (pv 0) pk_nil)) (pa_cons pe_str (pa_cons (pe_lst (pa_cons (pv 0) pa_nil)) pa_nil)))) (pa_cons (pe_tup (pa_cons (pe_exv (X.oex 19 (by decide)) I_Taken.iC I_Taken.tI I_Taken.F1 (hrr.mono (by decide)) I_Taken.b .nil pass0 (by rfl) I_Taken.mC (pa_cons (pv 0) pa_nil)) (pa_cons pe_str (pa_cons (pe_lst (pa_cons (pv 0) pa_nil)) pa_nil)))) (pa_cons (pe_tup (pa_cons (pe_exk (X.oex 6 (by decide)) I_BadRow.iC I_BadRow.tI I_BadRow.F1 (hrr.mono (by decide)) I_BadRow.kb pass0 (by rfl) I_BadRow.mC (pk_cons (pv 0) pk_nil)) (pa_cons pe_str (pa_cons (pe_lst (pa_cons (pv 0) pa_nil)) pa_nil)))) pa_nil)))))) (pss_one (ps_ret (pe_op op_cat (pv 2) (pe_lst (pa_cons (pe_tup (pa_cons (pe_exv (X.oex 20 (by decide)) I_TooMany.iC I_TooMany.tI I_TooMany.F1 (hrr.mono (by decide)) I_TooMany.b .nil pass0 (by rfl) I_TooMany.mC (pa_cons (pv 0) (pa_cons (pv 1) pa_nil))) (pa_cons pe_str (pa_cons (pe_lst (pa_cons (pv 0) (pa_cons (pv 1) pa_nil))) pa_nil)))) (pa_cons (pe_tup (pa_cons (pe_ex0 PySem.F.excBase_ValueError T.x_NoChange T.m_NoChange T.k_NoChange (by rfl)) (pa_cons pe_str (pa_cons (pe_lst pa_nil) pa_nil)))) (pa_cons (pe_tup (pa_cons (pe_exk (X.oex 9 (by decide)) I_BadTable.iC I_BadTable.tI I_BadTable.F1 (hrr.mono (by decide)) I_BadTable.kb pass0 (by rfl) I_BadTable.mC (pk_cons (pv 0) pk_nil)) (pa_cons pe_str (pa_cons (pe_lst (pa_cons (pv 0) pa_nil)) pa_nil)))) pa_nil)))))))))))))), fun sh => (sat_seq (sat_asg (sat_lst (sat_cons (sat_tup (sat_cons (sat_exv (fun _ => .nil) (sat_cons sat_var sat_nil)) (sat_cons sat_str (sat_cons (sat_lst (sat_cons sat_var sat_nil)) sat_nil)))) (sat_cons (sat_tup (sat_cons (sat_exk pm1_rel (sat_cons sat_var sat_nil)) (sat_cons sat_str (sat_cons (sat_lst (sat_cons sat_var sat_nil)) sat_nil)))) (sat_cons (sat_tup (sat_cons (sat_exv (fun _ => .nil) (sat_cons sat_var sat_nil)) (sat_cons sat_str (sat_cons (sat_lst (sat_cons sat_var sat_nil)) sat_nil)))) sat_nil)))) sat_gname) (sat_seq (sat_asg (sat_op sat_cat sat_var (sat_lst (sat_cons (sat_tup (sat_cons (sat_exk pm1_rel (sat_cons sat_var sat_nil)) (sat_cons sat_str (sat_cons (sat_lst (sat_cons sat_var sat_nil)) sat_nil)))) (sat_cons (sat_tup (sat_cons (sat_exv (fun _ => .nil) (sat_cons sat_var sat_nil)) (sat_cons sat_str (sat_cons (sat_lst (sat_cons sat_var sat_nil)) sat_nil)))) (sat_cons (sat_tup (sat_cons (sat_exv (fun _ => .nil) (sat_cons sat_var sat_nil)) (sat_cons sat_str (sat_cons (sat_lst (sat_cons sat_var sat_nil)) sat_nil)))) sat_nil))))) sat_gname) (sat_seq (sat_asg (sat_op sat_cat sat_var (sat_lst (sat_cons (sat_tup (sat_cons (sat_exv (fun _ => .nil) (sat_cons sat_var sat_nil)) (sat_cons sat_str (sat_cons (sat_lst (sat_cons sat_var sat_nil)) sat_nil)))) (sat_cons (sat_tup (sat_cons (sat_exk pm1_rel (sat_cons sat_var sat_nil)) (sat_cons sat_str (sat_cons (sat_lst (sat_cons sat_var sat_nil)) sat_nil)))) (sat_cons (sat_tup (sat_cons (sat_exv (fun _ => .nil) (sat_cons sat_var sat_nil)) (sat_cons sat_str (sat_cons (sat_lst (sat_cons sat_var sat_nil)) sat_nil)))) sat_nil))))) sat_gname) (sat_seq (sat_asg (sat_op sat_cat sat_var (sat_lst (sat_cons (sat_tup (sat_cons (sat_exv (fun _ => .nil) (sat_cons sat_var sat_nil)) (sat_cons sat_str (sat_cons (sat_lst (sat_cons sat_var sat_nil)) sat_nil)))) (sat_cons (sat_tup (sat_cons (sat_exk pm1_rel (sat_cons sat_var sat_nil)) (sat_cons sat_str (sat_cons (sat_lst (sat_cons sat_var sat_nil)) sat_nil)))) (sat_cons (sat_tup (sat_cons (sat_exv (fun _ => .nil) (sat_cons sat_var sat_nil)) (sat_cons sat_str (sat_cons (sat_lst (sat_cons sat_var sat_nil)) sat_nil)))) sat_nil))))) sat_gname) (sat_seq (sat_asg (sat_op sat_cat sat_var (sat_lst (sat_cons (sat_tup (sat_cons (sat_exv (fun _ => .nil) (sat_cons sat_var sat_nil)) (sat_cons sat_str (sat_cons (sat_lst (sat_cons sat_var sat_nil)) sat_nil)))) (sat_cons (sat_tup (sat_cons (sat_exk pm2_rel (sat_cons sat_var (sat_cons sat_var sat_nil))) (sat_cons sat_str (sat_cons (sat_lst (sat_cons sat_var (sat_cons sat_var sat_nil))) sat_nil)))) sat_nil)))) sat_gname) (sat_seq (sat_asg (sat_op sat_cat sat_var (sat_lst (sat_cons (sat_tup (sat_cons (sat_exv (fun _ => .nil) (sat_cons sat_var sat_nil)) (sat_cons sat_str (sat_cons (sat_lst (sat_cons sat_var sat_nil)) sat_nil)))) (sat_cons (sat_tup (sat_cons (sat_exk pm1_rel (sat_cons sat_var sat_nil)) (sat_cons sat_str (sat_cons (sat_lst (sat_cons sat_var sat_nil)) sat_nil)))) (sat_cons (sat_tup (sat_cons (sat_exv (fun _ => .nil) (sat_cons sat_var sat_nil)) (sat_cons sat_str (sat_cons (sat_lst (sat_cons sat_var sat_nil)) sat_nil)))) sat_nil))))) sat_gname) (sat_seq (sat_asg (sat_op sat_cat sat_var (sat_lst (sat_cons (sat_tup (sat_cons (sat_exk pm1_rel (sat_cons sat_var sat_nil)) (sat_cons sat_str (sat_cons (sat_lst (sat_cons sat_var sat_nil)) sat_nil)))) (sat_cons (sat_tup (sat_cons (sat_exv (fun _ => .nil) (sat_cons sat_var sat_nil)) (sat_cons sat_str (sat_cons (sat_lst (sat_cons sat_var sat_nil)) sat_nil)))) (sat_cons (sat_tup (sat_cons (sat_exk pm1_rel (sat_cons sat_var sat_nil)) (sat_cons sat_str (sat_cons (sat_lst (sat_cons sat_var sat_nil)) sat_nil)))) sat_nil))))) sat_gname) (sat_ret (sat_op sat_cat sat_var (sat_lst (sat_cons (sat_tup (sat_cons (sat_exv (fun _ => .nil) (sat_cons sat_var (sat_cons sat_var sat_nil))) (sat_cons sat_str (sat_cons (sat_lst (sat_cons sat_var (sat_cons sat_var sat_nil))) sat_nil)))) (sat_cons (sat_tup (sat_cons (sat_ex0 sat_nil) (sat_cons sat_str (sat_cons (sat_lst sat_nil) sat_nil)))) (sat_cons (sat_tup (sat_cons (sat_exk pm1_rel (sat_cons sat_var sat_nil)) (sat_cons sat_str (sat_cons (sat_lst (sat_cons sat_var sat_nil)) sat_nil)))) sat_nil)))))))))))))⟩
theorem sc_law_fields : FnScope ["_law_error", "_law_names"] ["_law_error", "_law_names"] (defScope s_law_fields) := ⟨rfl, rfl, rfl, by decide +kernel, rfl, by decide +kernel, by decide +kernel⟩
theorem ok_law_fields {fa : Addr} {fd : FuncData} (X : ExF K ⟨adr, 0⟩ isT naT ncT) (T : Txt K mg adr) (F : L2.Fun K "_law_fields" "_law_fields" s_law_fields fa fd) : FnOkG P w K mg base CX0 1 fa fd ["_law_error", "_law_names"] (spF adr 2 0 f_law_fields) := by
  refine fn_ok (k := 0) F sc_law_fields rfl rfl fun cdv A outer s H E hr => ?_
  have hrr := hr.toRoom
  exact ⟨_, (pss_cons (ps_if (pt_cmpR op_eq (pv 1) pe_str (nomark _)) (pss_one (ps_ret (pe_lst (pa_cons (pe_exf (pv 0)) (pa_cons (pe_exf (pv 0)) pa_nil))))) pss_nil) (pss_cons (ps_if (pt_cmpR op_eq (pv 1) pe_str (nomark _)) (pss_one (ps_ret (pe_lst (pa_cons (pe_exf (pv 0)) (pa_cons (pe_exf (pv 0)) pa_nil))))) pss_nil) (pss_cons (ps_if (pt_cmpR op_in_seq (pv 1) (pe_tup (pa_cons pe_str (pa_cons pe_str pa_nil))) (by rfl)) (pss_one (ps_ret (pe_ifExp (pt_cmpR op_eq (pv 1) pe_str (nomark _)) (pe_lst (pa_cons (pe_exf (pv 0)) pa_nil)) (pe_lst (pa_cons (pe_exf (pv 0)) pa_nil))))) pss_nil) (pss_cons (ps_if (pt_cmpR op_in_seq (pv 1) (pe_tup (pa_cons pe_str (pa_cons pe_str pa_nil))) (by rfl)) (pss_one (ps_ret (pe_ifExp (pt_cmpR op_eq (pv 1) pe_str (nomark _)) (pe_lst (pa_cons (pe_exf (pv 0)) pa_nil)) (pe_lst (pa_cons (pe_exf (pv 0)) pa_nil))))) pss_nil) (pss_cons (ps_if (pt_cmpR op_in_seq (pv 1) (pe_tup (pa_cons pe_str (pa_cons pe_str pa_nil))) (by rfl)) (pss_one (ps_ret (pe_ifExp (pt_cmpR op_eq (pv 1) pe_str (nomark _)) (pe_lst (pa_cons (pe_exf (pv 0)) pa_nil)) (pe_lst (pa_cons (pe_exf (pv 0)) pa_nil))))) pss_nil) (pss_one (ps_ret (pe_lst pa_nil)))))))), fun sh => (sat_seq (sat_ifS (sat_test (sat_op sat_eq sat_var sat_str)) (sat_ret (sat_lst (sat_cons (sat_exf (X.at sh) sat_var) (sat_cons (sat_exf (X.at sh) sat_var) sat_nil)))) sat_next) (sat_seq (sat_ifS (sat_test (sat_op sat_eq sat_var sat_str)) (sat_ret (sat_lst (sat_cons (sat_exf (X.at sh) sat_var) (sat_cons (sat_exf (X.at sh) sat_var) sat_nil)))) sat_next) (sat_seq (sat_ifS (sat_test (sat_op sat_in sat_var (sat_tup (sat_cons sat_str (sat_cons sat_str sat_nil))))) (sat_ret (sat_if (sat_test (sat_op sat_eq sat_var sat_str)) (sat_lst (sat_cons (sat_exf (X.at sh) sat_var) sat_nil)) (sat_lst (sat_cons (sat_exf (X.at sh) sat_var) sat_nil)))) sat_next) (sat_seq (sat_ifS (sat_test (sat_op sat_in sat_var (sat_tup (sat_cons sat_str (sat_cons sat_str sat_nil))))) (sat_ret (sat_if (sat_test (sat_op sat_eq sat_var sat_str)) (sat_lst (sat_cons (sat_exf (X.at sh) sat_var) sat_nil)) (sat_lst (sat_cons (sat_exf (X.at sh) sat_var) sat_nil)))) sat_next) (sat_seq (sat_ifS (sat_test (sat_op sat_in sat_var (sat_tup (sat_cons sat_str (sat_cons sat_str sat_nil))))) (sat_ret (sat_if (sat_test (sat_op sat_eq sat_var sat_str)) (sat_lst (sat_cons (sat_exf (X.at sh) sat_var) sat_nil)) (sat_lst (sat_cons (sat_exf (X.at sh) sat_var) sat_nil)))) sat_next) (sat_ret (sat_lst sat_nil)))))))⟩
theorem sc_law_classes : FnScope ["_law_error", "_law_told", "_law_spot"] ["_law_error"] (defScope s_law_classes) := ⟨rfl, rfl, rfl, by decide +kernel, rfl, by decide +kernel, by decide +kernel⟩
theorem ok_law_classes {fa : Addr} {fd : FuncData} (X : ExF K ⟨adr, 0⟩ isT naT ncT) (T : Txt K mg adr) (F : L2.Fun K "_law_classes" "_law_classes" s_law_classes fa fd) : FnOkG P w K mg base CX0 1 fa fd ["_law_error"] (spF adr 1 2 f_law_classes) := by
  refine fn_ok (k := 0) F sc_law_classes rfl rfl fun cdv A outer s H E hr => ?_
  have hrr := hr.toRoom
  exact ⟨_, (pss_cons (ps_set (i := 1) sc_law_classes.nd rfl (Or.inr rfl) (pe_lst (pa_cons (pe_callB call_isX (by rfl) T.z_isinstance (by decide +kernel) (pa_cons (pv 0) (pa_cons (pe_glob (v := .ref (adr 1)) (by rfl) T.m_BadValue rfl) pa_nil))) (pa_cons (pe_callB call_isX (by rfl) T.z_isinstance (by decide +kernel) (pa_cons (pv 0) (pa_cons (pe_glob (v := .ref (adr 2)) (by rfl) T.m_BadName rfl) pa_nil))) (pa_cons (pe_callB call_isX (by rfl) T.z_isinstance (by decide +kernel) (pa_cons (pv 0) (pa_cons (pe_glob (v := .ref (adr 3)) (by rfl) T.m_BadTold rfl) pa_nil))) pa_nil))))) (pss_cons (ps_set (i := 1) sc_law_classes.nd rfl (Or.inr rfl) (pe_op op_cat (pv 1) (pe_lst (pa_cons (pe_callB call_isX (by rfl) T.z_isinstance (by decide +kernel) (pa_cons (pv 0) (pa_cons (pe_glob (v := .ref (adr 4)) (by rfl) T.m_BadHead rfl) pa_nil))) (pa_cons (pe_callB call_isX (by rfl) T.z_isinstance (by decide +kernel) (pa_cons (pv 0) (pa_cons (pe_glob (v := .ref (adr 5)) (by rfl) T.m_BadFilter rfl) pa_nil))) (pa_cons (pe_callB call_isX (by rfl) T.z_isinstance (by decide +kernel) (pa_cons (pv 0) (pa_cons (pe_glob (v := .ref (adr 6)) (by rfl) T.m_BadRow rfl) pa_nil))) pa_nil)))))) (pss_cons (ps_set (i := 1) sc_law_classes.nd rfl (Or.inr rfl) (pe_op op_cat (pv 1) (pe_lst (pa_cons (pe_callB call_isX (by rfl) T.z_isinstance (by decide +kernel) (pa_cons (pv 0) (pa_cons (pe_glob (v := .ref (adr 7)) (by rfl) T.m_BadLots rfl) pa_nil))) (pa_cons (pe_callB call_isX (by rfl) T.z_isinstance (by decide +kernel) (pa_cons (pv 0) (pa_cons (pe_glob (v := .ref (adr 8)) (by rfl) T.m_BadShelf rfl) pa_nil))) (pa_cons (pe_callB call_isX (by rfl) T.z_isinstance (by decide +kernel) (pa_cons (pv 0) (pa_cons (pe_glob (v := .ref (adr 9)) (by rfl) T.m_BadTable rfl) pa_nil))) pa_nil)))))) (pss_cons (ps_set (i := 1) sc_law_classes.nd rfl (Or.inr rfl) (pe_op op_cat (pv 1) (pe_lst (pa_cons (pe_callB call_isX (by rfl) T.z_isinstance (by decide +kernel) (pa_cons (pv 0) (pa_cons (pe_glob (v := .ref (adr 10)) (by rfl) T.m_BadQuestion rfl) pa_nil))) (pa_cons (pe_callB call_isX (by rfl) T.z_isinstance (by decide +kernel) (pa_cons (pv 0) (pa_cons (pe_glob (v := .ref (adr 11)) (by rfl) T.m_BadRead rfl) pa_nil))) (pa_cons (pe_callB call_isX (by rfl) T.z_isinstance (by decide +kernel) (pa_cons (pv 0) (pa_cons (pe_glob (v := .ref (adr 12)) (by rfl) T.m_BadUpkeep rfl) pa_nil))) pa_nil)))))) (pss_cons (ps_set (i := 1) sc_law_classes.nd rfl (Or.inr rfl) (pe_op op_cat (pv 1) (pe_lst (pa_cons (pe_callB call_isX (by rfl) T.z_isinstance (by decide +kernel) (pa_cons (pv 0) (pa_cons (pe_glob (v := .ref (adr 13)) (by rfl) T.m_BadBook rfl) pa_nil))) (pa_cons (pe_callB call_isX (by rfl) T.z_isinstance (by decide +kernel) (pa_cons (pv 0) (pa_cons (pe_glob (v := .ref (adr 14)) (by rfl) T.m_BadText rfl) pa_nil))) (pa_cons (pe_callB call_isX (by rfl) T.z_isinstance (by decide +kernel) (pa_cons (pv 0) (pa_cons (pe_glob (v := .ref (adr 15)) (by rfl) T.m_BadLine rfl) pa_nil))) pa_nil)))))) (pss_cons (ps_set (i := 1) sc_law_classes.nd rfl (Or.inr rfl) (pe_op op_cat (pv 1) (pe_lst (pa_cons (pe_callB call_isX (by rfl) T.z_isinstance (by decide +kernel) (pa_cons (pv 0) (pa_cons (pe_glob (v := .ref (adr 16)) (by rfl) T.m_NoName rfl) pa_nil))) (pa_cons (pe_callB call_isX (by rfl) T.z_isinstance (by decide +kernel) (pa_cons (pv 0) (pa_cons (pe_glob (v := .ref (adr 17)) (by rfl) T.m_NoBlock rfl) pa_nil))) (pa_cons (pe_callB call_isX (by rfl) T.z_isinstance (by decide +kernel) (pa_cons (pv 0) (pa_cons (pe_glob (v := .ref (adr 18)) (by rfl) T.m_NoCount rfl) pa_nil))) pa_nil)))))) (pss_cons (ps_set (i := 1) sc_law_classes.nd rfl (Or.inr rfl) (pe_op op_cat (pv 1) (pe_lst (pa_cons (pe_callB call_isX (by rfl) T.z_isinstance (by decide +kernel) (pa_cons (pv 0) (pa_cons (pe_glob (v := .ref (adr 19)) (by rfl) T.m_Taken rfl) pa_nil))) (pa_cons (pe_callB call_isX (by rfl) T.z_isinstance (by decide +kernel) (pa_cons (pv 0) (pa_cons (pe_glob (v := .ref (adr 20)) (by rfl) T.m_TooMany rfl) pa_nil))) (pa_cons (pe_callB call_isX (by rfl) T.z_isinstance (by decide +kernel) (pa_cons (pv 0) (pa_cons (pe_glob (v := .ref (adr 21)) (by rfl) T.m_NoChange rfl) pa_nil))) pa_nil)))))) (pss_one (ps_ret (pe_lc (own := [("_law_spot", 2)]) (g := gName 2) rfl sc_law_classes.nd (pi_range1 (by rfl) T.z_range (pa_cons (pe_callB call_len_seq (by rfl) T.z_len PySem.boot_len (pa_cons (pv 1) pa_nil)) pa_nil)) (blkOk_by (N := ["_law_error", "_law_told", "_law_spot"]) (sc := defScope s_law_classes) (by decide +kernel)) (fun _ _ _ _ _ => pg_name (i := 2) sc_law_classes.nd rfl (Or.inl rfl)) (fun _ _ _ _ _ => (pts_one (pt_val (pe_ix ix_seq (pv 1) (pv 2) (fun _ _ => rfl))))) (fun _ _ _ _ _ => (pv 2)))))))))))), fun sh => (sat_seq (sat_asg (sat_lst (sat_cons (sat_cb (sat_isx (X.at sh)) (sat_cons sat_var (sat_cons sat_cls sat_nil))) (sat_cons (sat_cb (sat_isx (X.at sh)) (sat_cons sat_var (sat_cons sat_cls sat_nil))) (sat_cons (sat_cb (sat_isx (X.at sh)) (sat_cons sat_var (sat_cons sat_cls sat_nil))) sat_nil)))) sat_gname) (sat_seq (sat_asg (sat_op sat_cat sat_var (sat_lst (sat_cons (sat_cb (sat_isx (X.at sh)) (sat_cons sat_var (sat_cons sat_cls sat_nil))) (sat_cons (sat_cb (sat_isx (X.at sh)) (sat_cons sat_var (sat_cons sat_cls sat_nil))) (sat_cons (sat_cb (sat_isx (X.at sh)) (sat_cons sat_var (sat_cons sat_cls sat_nil))) sat_nil))))) sat_gname) (sat_seq (sat_asg (sat_op sat_cat sat_var (sat_lst (sat_cons (sat_cb (sat_isx (X.at sh)) (sat_cons sat_var (sat_cons sat_cls sat_nil))) (sat_cons (sat_cb (sat_isx (X.at sh)) (sat_cons sat_var (sat_cons sat_cls sat_nil))) (sat_cons (sat_cb (sat_isx (X.at sh)) (sat_cons sat_var (sat_cons sat_cls sat_nil))) sat_nil))))) sat_gname) (sat_seq (sat_asg (sat_op sat_cat sat_var (sat_lst (sat_cons (sat_cb (sat_isx (X.at sh)) (sat_cons sat_var (sat_cons sat_cls sat_nil))) (sat_cons (sat_cb (sat_isx (X.at sh)) (sat_cons sat_var (sat_cons sat_cls sat_nil))) (sat_cons (sat_cb (sat_isx (X.at sh)) (sat_cons sat_var (sat_cons sat_cls sat_nil))) sat_nil))))) sat_gname) (sat_seq (sat_asg (sat_op sat_cat sat_var (sat_lst (sat_cons (sat_cb (sat_isx (X.at sh)) (sat_cons sat_var (sat_cons sat_cls sat_nil))) (sat_cons (sat_cb (sat_isx (X.at sh)) (sat_cons sat_var (sat_cons sat_cls sat_nil))) (sat_cons (sat_cb (sat_isx (X.at sh)) (sat_cons sat_var (sat_cons sat_cls sat_nil))) sat_nil))))) sat_gname) (sat_seq (sat_asg (sat_op sat_cat sat_var (sat_lst (sat_cons (sat_cb (sat_isx (X.at sh)) (sat_cons sat_var (sat_cons sat_cls sat_nil))) (sat_cons (sat_cb (sat_isx (X.at sh)) (sat_cons sat_var (sat_cons sat_cls sat_nil))) (sat_cons (sat_cb (sat_isx (X.at sh)) (sat_cons sat_var (sat_cons sat_cls sat_nil))) sat_nil))))) sat_gname) (sat_seq (sat_asg (sat_op sat_cat sat_var (sat_lst (sat_cons (sat_cb (sat_isx (X.at sh)) (sat_cons sat_var (sat_cons sat_cls sat_nil))) (sat_cons (sat_cb (sat_isx (X.at sh)) (sat_cons sat_var (sat_cons sat_cls sat_nil))) (sat_cons (sat_cb (sat_isx (X.at sh)) (sat_cons sat_var (sat_cons sat_cls sat_nil))) sat_nil))))) sat_gname) (sat_ret (sat_lc (sat_rng1 (sat_cons (sat_cb sat_len_seq (sat_cons sat_var sat_nil)) sat_nil)) sat_gname (own_name (by decide)) (sat_b (sat_op sat_ix sat_var sat_var)) sat_var)))))))))⟩
end
end K1

set_option Elab.async false
set_option linter.all false
set_option maxRecDepth 100000
set_option maxHeartbeats 4000000
/-! K1H: the pen, a draw, a pick. -/
namespace K1
open PySem PySem.Spec PyProof.Rows L2 RI
theorem sc_law_pen : FnScope ["_law_script"] ["_law_script"] (defScope s_law_pen) := ⟨rfl, rfl, rfl, by decide +kernel, rfl, by decide +kernel, by decide +kernel⟩
theorem sc_law_pick : FnScope ["_law_pen_here", "_law_some"] ["_law_pen_here", "_law_some"] (defScope s_law_pick) := ⟨rfl, rfl, rfl, by decide +kernel, rfl, by decide +kernel, by decide +kernel⟩
theorem sc_law_draw : FnScope ["_law_pen_here", "_law_many", "_law_digit", "_law_spot", "_law_cell", "_law_great", "_law_mixed"] ["_law_pen_here", "_law_many"] (defScope s_law_draw) := ⟨rfl, rfl, rfl, by decide +kernel, rfl, by decide +kernel, by decide +kernel⟩
section
variable {P : Program} {w : World} {K : PySem.W.Frag} {mg : Str → Option Value} {base : Heap} {adr : Nat → Addr}
def spPen (K : PySem.W.Frag) : Sp := fun vs H Q _ => ∃ (a : Addr) (ns : List Int), vs = [.ref a] ∧ SqL K H a (ns.map V.int) ∧ ns.length ≤ 63 ∧
  ∀ (l p : Addr) (ms : List Int) (H' : Hp), l ≠ p → ms.length ≤ 63 → H' l = some (.lst (ms.map V.int)) → H' p = some (.lst [.ref l, .int 0, .int 0]) → Q (.ref p) H'
theorem cut_ints (ns : List Int) (lo hi : Option Int) : ∃ ms : List Int, cutV (ns.map V.int) lo hi = ms.map V.int ∧ ms.length ≤ ns.length := by
  unfold cutV
  rw [← List.map_drop, ← List.map_take]
  refine ⟨_, rfl, ?_⟩
  rw [List.length_take, List.length_drop]
  omega
theorem ok_law_pen {fa : Addr} {fd : FuncData} (T : Txt K mg adr) (F : L2.Fun K "_law_pen" "_law_pen" s_law_pen fa fd) : FnOkG P w K mg base CX0 1 fa fd ["_law_script"] (spPen K) := by
  refine (F.ok sc_law_pen (fun vs H Q E h => ?_) (fun cdv A outer s H vs Q E hr h => ?_)).g
  · obtain ⟨a, ns, rfl, _⟩ := h
    rfl
  · obtain ⟨a, ns, rfl, hS, hl, k⟩ := h
    refine ⟨_, pss_one (ps_ret (pe_lst (pa_cons (pe_callTy call_list_of (by rfl) T.z_list (by decide +kernel) (pa_cons (pe_slice sl_list (pv 0) po_none (po_some pe_int)) pa_nil)) (pa_cons pe_int (pa_cons pe_int pa_nil))))), ?_⟩
    obtain ⟨ms, e, hm⟩ := cut_ints ns none (some 61)
    refine ⟨_, rfl, 61, rfl, a, _, rfl, hS, fun c hc => ⟨c, _, rfl, .inl (SqL.of upd_same), fun l hl2 => ⟨(by show 3 ≤ sizeLine; decide), fun p hp => ?_⟩⟩⟩
    have nlp : l ≠ p := fun q => by
      subst q
      rw [upd_same] at hp
      cases hp
    refine k l p ms _ nlp (by omega) ?_ upd_same
    rw [upd_ne nlp, upd_same, e]
theorem getI_nat {α : Type} {xs : List α} {d : Int} (h0 : 0 ≤ d) (h1 : d < xs.length) : ∃ w, getI xs d = some w ∧ xs[d.toNat]? = some w := by
  obtain ⟨n, rfl⟩ := Int.eq_ofNat_of_zero_le h0
  have hn : n < xs.length := by omega
  refine ⟨xs[n], ?_, by simp [hn]⟩
  show (match ixW (lenR xs) (Int.ofNat n) with
    | some j => getR xs j
    | none => none) = _
  have e : Nat.blt n (lenR xs) = true := by rw [lenR_eq]; exact PySem.W.Z.blt_iff.mpr hn
  unfold ixW
  simp only [e]
  rw [getR_eq, List.getElem?_eq_getElem hn]
theorem ok_law_pick {fa fD : Addr} {fd dD : FuncData} (T : Txt K mg adr) (F : L2.Fun K "_law_pick" "_law_pick" s_law_pick fa fd) (G : FnOkG P w K mg base CX0 1 fD dD ["_law_pen_here", "_law_many"] (spDraw ())) (B : DefB K mg "_law_draw" fD dD ["_law_pen_here", "_law_many"]) :
    FnOkG P w K mg base CX0 2 fa fd ["_law_pen_here", "_law_some"] (spPick adr) := by
  refine F.okG sc_law_pick (fun vs H Q E h => ?_) (fun cdv A outer s H vs Q E hr h => ?_)
  · obtain ⟨sh, ρ, S, p, q, b, x, xs, k, hv, _⟩ := h
    exact RelWs.len hv
  · obtain ⟨sh, ρ, S, p, q, b, x, xs, k, hv, D, h1, h2, h3, h0, hlt, hb, hall, L⟩ := h
    refine ⟨_, pss_one (ps_ret (pe_ix ix_seq (pv 1) (pe_callG G (hr.mono (by decide)) (by rfl) B.m B.k B.b .nil pass0 (pa_cons (pv 0) (pa_cons (pe_callB call_len_seq (by rfl) T.z_len PySem.boot_len (pa_cons (pv 1) pa_nil)) pa_nil))) (fun _ _ => rfl))), ?_⟩
    cases hv with
    | cons r0 rr =>
      cases rr with
      | cons r1 rr =>
        cases rr
        obtain ⟨ap, ep, rfl⟩ := r0
        obtain ⟨ax, ex, rfl⟩ := r1
        obtain ⟨a, lq, i, g, ns, e1, e2, e3, e4, e5, e6, e7, e8⟩ := pen_at D h1 h2
        rw [ep] at e1; cases e1
        obtain ⟨ax', vs', z1, z2, z3⟩ := seqAt_ok (K := K) D h3
        rw [ex] at z1; cases z1
        have hlen : vs'.length = xs.length := RelWs.len z2
        have hdl : (drawLine : Nat) = 9000000 := rfl
        refine ⟨_, rfl, _, rfl, _, rfl, ax, vs', rfl, z3, ap, lq, i, g, _, ns, rfl, e3, e4, e5, e6, ?_, e8, ?_, ?_, fun d i' g' H' d0 d1 i0 i1 g0 hH => ?_⟩
        · have : (CL.mk adr sh).sh = sh := rfl
          omega
        · rw [hlen]; omega
        · rw [hlen]
          have : (100000 : Int) ≤ 2 ^ 9000 := by decide +kernel
          omega
        · rw [hlen] at d1
          have D' := (pen_set D ep e2 e6 e7 i0 i1 g0).same hH
          obtain ⟨wv, w1, w2⟩ := getI_nat d0 (by exact_mod_cast d1)
          have hx : seqAt (setS S p (.pen q (b + 1))) x = some xs := by
            have npx : p ≠ x := by
              intro e
              subst e
              unfold seqAt at h3
              rw [h1] at h3
              cases h3
            have hp : p < S.length := by
              have := (List.getElem?_eq_some_iff.mp ((getS_eq _ _).symm.trans h1)).1
              simpa using this
            unfold seqAt at h3 ⊢
            rw [getS_eq, setS_get _ _ _ hp, List.getElem?_set_ne npx, ← getS_eq]
            exact h3
          refine sat_ix (cl := ⟨adr, sh⟩) ρ _ H' (.ref x) (.int d) _ _ k Q D' ⟨ax, ex, rfl⟩ rfl ?_ L
          unfold gIx
          simp only [hx, w1]
          exact allB_get hall w2
end
end K1

set_option Elab.async false
set_option linter.all false
set_option maxRecDepth 100000
set_option maxHeartbeats 4000000
/-! K1L: the law. -/
namespace K1
open PySem PySem.Spec PyProof.Rows L2 RI
theorem sc_law : FnScope ["_law_script", "_law_pen_here", "_law_places", "_law_turn", "_law_one", "_law_two", "_law_made_here", "_law_spot", "_law_error", "_law_names", "_law_fields_here"] ["_law_script"] (defScope s_law) := ⟨rfl, rfl, rfl, by decide +kernel, rfl, by decide +kernel, by decide +kernel⟩
section
variable {P : Program} {w : World} {K : PySem.W.Frag} {mg : Str → Option Value} {base : Heap} {adr : Nat → Addr}
def spLaw (K : PySem.W.Frag) : Sp := fun vs H Q _ => ∃ (a : Addr) (ns : List Int), vs = [.ref a] ∧ SqL K H a (ns.map V.int) ∧ ns.length ≤ 63 ∧ ∀ H', Q (.bl true) H'

theorem ok_rest {a_law_pen : Addr} {d_law_pen : FuncData} {a_law_value : Addr} {d_law_value : FuncData} {a_law_made : Addr} {d_law_made : FuncData} {a_law_fields : Addr} {d_law_fields : FuncData} {a_law_classes : Addr} {d_law_classes : FuncData} (X : ExF K ⟨adr, 0⟩ isT naT ncT) (T : Txt K mg adr) (G__law_pen : FnOkG P w K mg base CX0 1 a_law_pen d_law_pen ["_law_script"] (spPen K)) (B__law_pen : DefB K mg "_law_pen" a_law_pen d_law_pen ["_law_script"]) (G__law_value : FnOkG P w K mg base CX0 3 a_law_value d_law_value ["_law_pen_here"] (spF adr 1 1 f_law_value)) (B__law_value : DefB K mg "_law_value" a_law_value d_law_value ["_law_pen_here"]) (G__law_made : FnOkG P w K mg base CX0 3 a_law_made d_law_made ["_law_one", "_law_two"] (spF adr 2 1 f_law_made)) (B__law_made : DefB K mg "_law_made" a_law_made d_law_made ["_law_one", "_law_two"]) (G__law_fields : FnOkG P w K mg base CX0 1 a_law_fields d_law_fields ["_law_error", "_law_names"] (spF adr 2 0 f_law_fields)) (B__law_fields : DefB K mg "_law_fields" a_law_fields d_law_fields ["_law_error", "_law_names"]) (G__law_classes : FnOkG P w K mg base CX0 1 a_law_classes d_law_classes ["_law_error"] (spF adr 1 2 f_law_classes)) (B__law_classes : DefB K mg "_law_classes" a_law_classes d_law_classes ["_law_error"]) {fa : Addr} {cdv : Value} {A : Around} {outer : List Env} {s : Shared} {H : Hp} {E : XK} (hr : RoomG 3 (A.deeper (envOfC "law" (defScope s_law) s.heap.objs.size fa cdv))) :
    ∃ t, PSs (cxOf CX0 P w K mg base ["_law_script", "_law_pen_here", "_law_places", "_law_turn", "_law_one", "_law_two", "_law_made_here", "_law_spot", "_law_error", "_law_names", "_law_fields_here"] "law" (defScope s_law) fa cdv A outer s H E).nox (defBody s_law).tail t ∧ ∀ sh, SatS ⟨adr, sh⟩ f_rest t := by
  have hrr := hr.toRoom
  exact ⟨_, (pss_cons (ps_set (i := 2) sc_law.nd rfl (Or.inl rfl) (pe_lst (pa_cons pe_int (pa_cons pe_int (pa_cons pe_int (pa_cons pe_int (pa_cons pe_int (pa_cons pe_int (pa_cons pe_int (pa_cons pe_int (pa_cons pe_int (pa_cons pe_int (pa_cons pe_int (pa_cons pe_int (pa_cons pe_int (pa_cons pe_int (pa_cons pe_int (pa_cons pe_int (pa_cons pe_int (pa_cons pe_int (pa_cons pe_int (pa_cons pe_int (pa_cons pe_int (pa_cons pe_int (pa_cons pe_int pa_nil))))))))))))))))))))))))) (pss_cons (ps_for PassesOwn.never rfl (pi_range1 (by rfl) T.z_range (pa_cons pe_int pa_nil)) (pg_name (i := 3) sc_law.nd rfl (Or.inl rfl)) (pss_cons (ps_par (i := 4) (j := 5) (by rfl) sc_law.nd rfl rfl (by decide) rfl rfl (pa_cons (pe_callG G__law_value (hr.mono (by decide)) (by rfl) B__law_value.m B__law_value.k B__law_value.b .nil pass0 (pa_cons (pv 1) pa_nil)) (pa_cons (pe_callG G__law_value (hr.mono (by decide)) (by rfl) B__law_value.m B__law_value.k B__law_value.b .nil pass0 (pa_cons (pv 1) pa_nil)) pa_nil)) (by rfl)) (pss_cons (ps_set (i := 6) sc_law.nd rfl (Or.inl rfl) (pe_callG G__law_made (hr.mono (by decide)) (by rfl) B__law_made.m B__law_made.k B__law_made.b .nil pass0 (pa_cons (pv 4) (pa_cons (pv 5) pa_nil)))) (pss_one (ps_for PassesOwn.never rfl (pi_range1 (by rfl) T.z_range (pa_cons (pe_callB call_len_seq (by rfl) T.z_len PySem.boot_len (pa_cons (pv 6) pa_nil)) pa_nil)) (pg_name (i := 7) sc_law.nd rfl (Or.inl rfl)) (pss_cons (ps_asg (pe_ix ix_seq (pv 6) (pv 7) (fun _ _ => rfl)) (pg_tup (by rfl) (pgs_cons (pg_name (i := 8) sc_law.nd rfl (Or.inl rfl)) (pgs_cons (pg_name (i := 9) sc_law.nd rfl (Or.inl rfl)) (pgs_cons (pg_name (i := 10) sc_law.nd rfl (Or.inl rfl)) pgs_nil))))) (pss_cons (ps_if (PW.pt (pw_or (pt_cmpR op_ne (pe_callB (call_reprL hr) (by rfl) T.z_repr (by decide +kernel) (pa_cons (pe_callG G__law_fields (hr.mono (by decide)) (by rfl) B__law_fields.m B__law_fields.k B__law_fields.b .nil pass0 (pa_cons (pv 8) (pa_cons (pv 9) pa_nil))) pa_nil)) (pe_callB (call_reprL hr) (by rfl) T.z_repr (by decide +kernel) (pa_cons (pv 10) pa_nil)) (nomark _)) (pw_or1 (pt_cmpR (op_neD hr.units) (pe_callG G__law_classes (hr.mono (by decide)) (by rfl) B__law_classes.m B__law_classes.k B__law_classes.b .nil pass0 (pa_cons (pv 8) pa_nil)) (pe_lst (pa_cons (pe_ix ix_seq (pv 2) (pv 7) (fun _ _ => rfl)) pa_nil)) (nomark _))))) (pss_one (ps_ret pe_bl)) pss_nil) (pss_cons (ps_if (PW.pt (pw_or (pt_not (pt_val (pe_callB call_isX (by rfl) T.z_isinstance (by decide +kernel) (pa_cons (pv 8) (pa_cons (pe_glob (v := .ref (adr 0)) (by rfl) T.m_SkipError rfl) pa_nil))))) (pw_or1 (pt_not (pt_val (pe_callB call_isX (by rfl) T.z_isinstance (by decide +kernel) (pa_cons (pv 8) (pa_cons (pe_bltn (v := .ty "ValueError") (by rfl) T.z_ValueError (by decide +kernel) rfl) pa_nil)))))))) (pss_one (ps_ret pe_bl)) pss_nil) (pss_one (ps_if (PW.pt (pw_or (pt_val (pe_callB call_isX (by rfl) T.z_isinstance (by decide +kernel) (pa_cons (pv 8) (pa_cons (pe_bltn (v := .ty "LookupError") (by rfl) T.z_LookupError (by decide +kernel) rfl) pa_nil)))) (pw_or (pt_val (pe_callB call_isX (by rfl) T.z_isinstance (by decide +kernel) (pa_cons (pv 8) (pa_cons (pe_bltn (v := .ty "TypeError") (by rfl) T.z_TypeError (by decide +kernel) rfl) pa_nil)))) (pw_or1 (pt_val (pe_callB call_isX (by rfl) T.z_isinstance (by decide +kernel) (pa_cons (pv 8) (pa_cons (pe_bltn (v := .ty "ArithmeticError") (by rfl) T.z_ArithmeticError (by decide +kernel) rfl) pa_nil)))))))) (pss_one (ps_ret pe_bl)) pss_nil)))))))))) (pss_one (ps_ret (pe_and (pe_not (pe_callB call_isX (by rfl) T.z_isinstance (by decide +kernel) (pa_cons (pe_ex1 (te := fun _ _ _ => True) PySem.F.excBase_ValueError T.x_SkipError T.m_SkipError T.k_SkipError (by rfl) (pa_cons pe_str pa_nil) (hl := fun _ _ _ h => ⟨by decide, h⟩)) (pa_cons (pe_glob (v := .ref (adr 1)) (by rfl) T.m_BadValue rfl) pa_nil)))) (pe_one (pe_callB call_isX (by rfl) T.z_isinstance (by decide +kernel) (pa_cons (pe_ex1 (te := fun _ _ _ => True) PySem.F.excBase_ValueError T.x_SkipError T.m_SkipError T.k_SkipError (by rfl) (pa_cons pe_str pa_nil) (hl := fun _ _ _ h => ⟨by decide, h⟩)) (pa_cons (pe_bltn (v := .ty "ValueError") (by rfl) T.z_ValueError (by decide +kernel) rfl) pa_nil))))))))), fun sh => (sat_seq (sat_asg (sat_lst (sat_cons sat_int (sat_cons sat_int (sat_cons sat_int (sat_cons sat_int (sat_cons sat_int (sat_cons sat_int (sat_cons sat_int (sat_cons sat_int (sat_cons sat_int (sat_cons sat_int (sat_cons sat_int (sat_cons sat_int (sat_cons sat_int (sat_cons sat_int (sat_cons sat_int (sat_cons sat_int (sat_cons sat_int (sat_cons sat_int (sat_cons sat_int (sat_cons sat_int (sat_cons sat_int (sat_cons sat_int (sat_cons sat_int sat_nil)))))))))))))))))))))))) sat_gname) (sat_seq (sat_forU (by decide) (fun cl' hc => by obtain ⟨_, sh⟩ := cl'; cases hc; exact (sat_seq (sat_par (sat_cons (sat_call_nil (sat_cons sat_var sat_nil)) (sat_cons (sat_call_nil (sat_cons sat_var sat_nil)) sat_nil))) (sat_seq (sat_asg (sat_call_nil (sat_cons sat_var (sat_cons sat_var sat_nil))) sat_gname) (sat_forG (sat_cons (sat_cb sat_len_seq (sat_cons sat_var sat_nil)) sat_nil) (fun _ => sat_gname) (fun cl' hc => by obtain ⟨_, sh⟩ := cl'; cases hc; exact (sat_seq (sat_asg (sat_op sat_ix sat_var sat_var) (sat_gtup (sat_gcons sat_gname (sat_gcons sat_gname (sat_gcons sat_gname sat_gnil))))) (sat_seq (sat_ifS (sat_or (sat_test (sat_op sat_eqX (sat_cb sat_repr (sat_cons (sat_call_nil (sat_cons sat_var (sat_cons sat_var sat_nil))) sat_nil)) (sat_cb sat_repr (sat_cons sat_var sat_nil)))) (sat_test (sat_op sat_neD (sat_call_nil (sat_cons sat_var sat_nil)) (sat_lst (sat_cons (sat_op sat_ix sat_var sat_var) sat_nil))))) (sat_ret sat_bl) sat_next) (sat_seq (sat_ifS (sat_or (sat_not (sat_b (sat_cb (sat_isx (X.at sh)) (sat_cons sat_var (sat_cons sat_cls sat_nil))))) (sat_not (sat_b (sat_cb (sat_isx (X.at sh)) (sat_cons sat_var (sat_cons sat_ty sat_nil)))))) (sat_ret sat_bl) sat_next) (sat_ifS (sat_or (sat_b (sat_cb (sat_isx (X.at sh)) (sat_cons sat_var (sat_cons sat_ty sat_nil)))) (sat_or (sat_b (sat_cb (sat_isx (X.at sh)) (sat_cons sat_var (sat_cons sat_ty sat_nil)))) (sat_b (sat_cb (sat_isx (X.at sh)) (sat_cons sat_var (sat_cons sat_ty sat_nil)))))) (sat_ret sat_bl) sat_next)))))))))) (sat_ret (sat_andV (sat_notV (sat_cb (sat_isx (X.at sh)) (sat_cons (sat_ex0 (sat_cons sat_str sat_nil)) (sat_cons sat_cls sat_nil)))) (sat_cb (sat_isx (X.at sh)) (sat_cons (sat_ex0 (sat_cons sat_str sat_nil)) (sat_cons sat_ty sat_nil)))))))⟩
theorem ok_law {a_law_pen : Addr} {d_law_pen : FuncData} {a_law_value : Addr} {d_law_value : FuncData} {a_law_made : Addr} {d_law_made : FuncData} {a_law_fields : Addr} {d_law_fields : FuncData} {a_law_classes : Addr} {d_law_classes : FuncData} (X : ExF K ⟨adr, 0⟩ isT naT ncT) (T : Txt K mg adr) (G__law_pen : FnOkG P w K mg base CX0 1 a_law_pen d_law_pen ["_law_script"] (spPen K)) (B__law_pen : DefB K mg "_law_pen" a_law_pen d_law_pen ["_law_script"]) (G__law_value : FnOkG P w K mg base CX0 3 a_law_value d_law_value ["_law_pen_here"] (spF adr 1 1 f_law_value)) (B__law_value : DefB K mg "_law_value" a_law_value d_law_value ["_law_pen_here"]) (G__law_made : FnOkG P w K mg base CX0 3 a_law_made d_law_made ["_law_one", "_law_two"] (spF adr 2 1 f_law_made)) (B__law_made : DefB K mg "_law_made" a_law_made d_law_made ["_law_one", "_law_two"]) (G__law_fields : FnOkG P w K mg base CX0 1 a_law_fields d_law_fields ["_law_error", "_law_names"] (spF adr 2 0 f_law_fields)) (B__law_fields : DefB K mg "_law_fields" a_law_fields d_law_fields ["_law_error", "_law_names"]) (G__law_classes : FnOkG P w K mg base CX0 1 a_law_classes d_law_classes ["_law_error"] (spF adr 1 2 f_law_classes)) (B__law_classes : DefB K mg "_law_classes" a_law_classes d_law_classes ["_law_error"]) {fa : Addr} {fd : FuncData} (F : L2.Fun K "law" "law" s_law fa fd) (hf : f_rest kEnd E0 S0 = true) : FnOkG P w K mg base CX0 4 fa fd ["_law_script"] (spLaw K) := by
  refine F.okG (k := 3) sc_law (fun vs H Q E h => ?_) (fun cdv A outer s H vs Q E hr h => ?_)
  · obtain ⟨a, ns, rfl, _⟩ := h
    rfl
  · obtain ⟨a, ns, rfl, hS, hl, k⟩ := h
    obtain ⟨t, h1, h2⟩ := ok_rest X T G__law_pen B__law_pen G__law_value B__law_value G__law_made B__law_made G__law_fields B__law_fields G__law_classes B__law_classes (outer := outer) (s := s) (H := H) (E := E) (cdv := cdv) (fa := fa) hr
    refine ⟨_, PSs.nox (pss_cons (ps_set (i := 1) sc_law.nd rfl (Or.inl rfl) (pe_callG G__law_pen (hr.mono (by decide)) (by rfl) B__law_pen.m B__law_pen.k B__law_pen.b .nil pass0 (pa_cons (pv 0) pa_nil))) h1), ?_⟩
    refine ⟨_, rfl, a, ns, rfl, hS, hl, fun l p ms H' nlp hm e1 e2 => ?_⟩
    refine h2 0 [l, p] E0 S0 _ H' kEnd _ ?_ ⟨rfl, by simpa using nlp, ?_⟩ hf ⟨?_, ?_, ?_, ?_⟩
    · refine .cons (fun w e => nomatch e) (.cons (fun w e => ?_) ?_)
      · cases e
        exact ⟨_, rfl, p, rfl, rfl⟩
      · exact .cons (fun w e => nomatch e) (.cons (fun w e => nomatch e) (.cons (fun w e => nomatch e) (.cons (fun w e => nomatch e) (.cons (fun w e => nomatch e) (.cons (fun w e => nomatch e) (.cons (fun w e => nomatch e) (.cons (fun w e => nomatch e) (.cons (fun w e => nomatch e) .nil))))))))
    · intro k o b h1 h2
      rw [getS_eq] at h1
      match k with
      | 0 =>
        cases h1
        cases h2
        exact ⟨_, e1, ms, rfl, hm⟩
      | 1 =>
        cases h1
        cases h2
        exact ⟨_, e2, l, 0, 0, rfl, rfl, Int.le_refl _, (by show (0 : Int) + ((0 : Nat) : Int) ≤ ((0 : Nat) : Int); decide), Int.le_refl _⟩
      | k + 2 => cases h1
    · exact fun w S' ρ' v H' h _ _ _ => ff h
    · intro w S' ρ' v H' h _ _ r
      unfold kEnd at h
      cases w with
      | bl b =>
        cases b with
        | true =>
          obtain rfl : v = .bl true := r
          exact k H'
        | false => exact ff h
      | _ => exact ff h
    · exact fun w S' ρ' v H' h _ _ _ => ff h
    · exact fun w S' ρ' v H' h _ _ _ => ff h
end
end K1

set_option Elab.async false
set_option linter.all false
set_option maxRecDepth 100000
set_option maxHeartbeats 4000000
/-! K1D: a draw. -/
namespace K1
open PySem PySem.Spec PyProof.Rows L2 RI
section
variable {P : Program} {w : World} {K : PySem.W.Frag} {mg : Str → Option Value} {base : Heap} {adr : Nat → Addr}
theorem ints_dp {H : Hp} : ∀ ns : List Int, DpAll K H (ns.map V.int) (ns.map PyData.int)
  | [] => .nil
  | _ :: l => .cons (.int _) (ints_dp l)
theorem ints_lay : ∀ ns : List Int, PyData.canLayAll0 (ns.map PyData.int) = true
  | [] => rfl
  | _ :: l => by simp [PyData.canLayAll0, PyData.canLay0, ints_lay l]
theorem ints_depth : ∀ ns : List Int, PyData.depthAll (ns.map PyData.int) ≤ 1
  | [] => by simp [PyData.depthAll]
  | _ :: l => by
    have := ints_depth l
    simp [PyData.depthAll, PyData.depth, this]
theorem ints_shaped (ns : List Int) : SeqAt.shaped (.list (ns.map PyData.int)) = true := by
  unfold SeqAt.shaped
  have h1 := ints_lay ns
  have h2 := ints_depth ns
  have h3 : (PyData.list (ns.map PyData.int)).depth ≤ 64 := by simp only [PyData.depth]; omega
  simp [PyData.canLay0, h1, h3]
theorem tnext_of {D : Ends} {σ : L2.St} {H : Hp} (h : D.nx σ H) : tNext D σ H := h
theorem posA : (0 : Int) < 2147483543 := by decide
theorem posB : (0 : Int) < 2147483563 := by decide
theorem posC : (0 : Int) < 2147483629 := by decide
theorem heap0 {H : Hp} {p l0 : Addr} {Y Z : HO} (h : upd H p Y l0 = none) (b : Addr) (o : HO) (e : upd H p Y b = some o) : upd (upd H p Y) l0 Z b = some o := by
  rw [upd_ne (ne_of_none e h)]
  exact e
theorem heap1 {H : Hp} {p l0 : Addr} {Y Z X : HO} (h : upd H p Y l0 = none) (b : Addr) (o : HO) (e : upd H p X b = some o) : upd (upd (upd H p Y) l0 Z) p X b = some o := by
  by_cases hb : b = p
  · subst hb
    rw [upd_same] at e ⊢
    exact e
  · rw [upd_ne hb] at e ⊢
    have e2 : upd H p Y b = some o := by rw [upd_ne hb]; exact e
    rw [upd_ne (ne_of_none e2 h)]
    exact e2
theorem size1 {i : Int} (c : Int) (h0 : 0 ≤ i) (h9 : i < 9000000) : (c % 2147483543 + 61228 * i + 400).natAbs < 2 ^ 64 := by
  have h1 := Int.emod_nonneg c (show (2147483543 : Int) ≠ 0 by decide)
  have h2 := Int.emod_lt_of_pos c (show (0 : Int) < 2147483543 by decide)
  omega
theorem mix0 (x : Int) : 0 ≤ x % 2147483563 := Int.emod_nonneg x (by decide)
theorem mix1 (x : Int) : x % 2147483563 < 2147483563 := Int.emod_lt_of_pos x (by decide)
theorem size2 {m i : Int} (a : 0 ≤ m) (b : m < 2147483563) (h0 : 0 ≤ i) (h9 : i < 9000000) : (m * (2 * i + 177) + 51104 * i * i + 136).natAbs < 2 ^ 64 := by
  have h1 : m * (2 * i + 177) ≤ 2147483563 * (2 * 9000000 + 177) := Int.mul_le_mul (by omega) (by omega) (by omega) (by decide)
  have h2 : 0 ≤ m * (2 * i + 177) := Int.mul_nonneg a (by omega)
  have h3 : 51104 * i * i ≤ 51104 * 9000000 * 9000000 := Int.mul_le_mul (by omega) (by omega) h0 (by decide)
  have h4 : 0 ≤ 51104 * i * i := Int.mul_nonneg (by omega) h0
  omega
theorem great {c : Int} (h : decide ((10 : Int) ^ (18 : Int).toNat ≤ if c < 0 then -c else c) = true) : 0 ≤ 2 * ((if c < 0 then -c else c) - (10 : Int) ^ (18 : Int).toNat) + (if decide (c < 0) = true then 1 else 0) := by
  have e : (10 : Int) ^ (18 : Int).toNat = 1000000000000000000 := rfl
  have h' := of_decide_eq_true h
  rw [e] at h' ⊢
  by_cases q : c < 0
  · simp only [q, if_true, decide_true] at h' ⊢
    omega
  · simp only [q, if_false, decide_false] at h' ⊢
    simp
    omega
theorem cell_pos {ns : List Int} (h : (!PyData.eqv (.list (ns.map PyData.int)) (.list [])) = true) : (0 : Int) < ((ns.map V.int).length : Int) := by
  cases ns with
  | nil => simp [PyData.eqv, PyData.eqvAll] at h
  | cons a l => simp
theorem cell_at {ns : List Int} {i : Int} (h : (!PyData.eqv (.list (ns.map PyData.int)) (.list [])) = true) : ∃ c : Int, atI (ns.map V.int) (i % ((ns.map V.int).length : Int)) = some (.int c) := by
  have h1 := cell_pos h
  have h2 := Int.emod_nonneg i (show ((ns.map V.int).length : Int) ≠ 0 by omega)
  have h3 := Int.emod_lt_of_pos i h1
  obtain ⟨j, hj⟩ := Int.eq_ofNat_of_zero_le h2
  rw [hj] at h3 ⊢
  have hj2 : j < ns.length := by simpa using h3
  exact ⟨ns[j], atI_nat (by simp [hj2])⟩
theorem ok_law_draw {fa : Addr} {fd : FuncData} (T : Txt K mg adr) (F : L2.Fun K "_law_draw" "_law_draw" s_law_draw fa fd) : FnOkG P w K mg base CX0 1 fa fd ["_law_pen_here", "_law_many"] (spDraw ()) := by
  refine (F.ok (k := 0) sc_law_draw (fun vs H Q E h => ?_) (fun cdv A outer s H vs Q E hr h => ?_)).g
  · obtain ⟨p, lq, i, g, n, ns, rfl, _⟩ := h
    rfl
  · obtain ⟨p, lq, i, g, n, ns, rfl, hp, hq, hns, i0, i9, g0, n1, n9, k⟩ := h
    have npq : p ≠ lq := fun e => by
      subst e
      rw [hp] at hq
      cases ns with
      | nil => cases hq
      | cons a l => cases hq
    have hn : 0 < n := by omega
    have wn : ∀ x : Int, CDivW x n := fun x => wide_div (b := 9000) hn (by omega) (by decide) (Nat.le_refl _)
    refine ⟨_, (pss_cons (ps_if (pt_cmpR op_gt (pe_ix ix_list (pv 0) pe_int (fun _ _ => rfl)) pe_int (nomark _)) (pss_cons (ps_set (i := 2) sc_law_draw.nd rfl (Or.inl rfl) (pe_op op_mod (pe_callTy call_int1 (by rfl) T.z_int (by decide +kernel) (pa_cons (pe_ix ix_list (pv 0) pe_int (fun _ _ => rfl)) pa_nil)) (pv 1))) (pss_cons (ps_asg (pe_op op_fdivW (pe_callTy call_int1 (by rfl) T.z_int (by decide +kernel) (pa_cons (pe_ix ix_list (pv 0) pe_int (fun _ _ => rfl)) pa_nil)) (pv 1)) (pg_sub (pv 0) pe_int set_list)) (pss_one (ps_ret (pv 2))))) pss_nil) (pss_cons (ps_set (i := 3) sc_law_draw.nd rfl (Or.inl rfl) (pe_ix ix_list (pv 0) pe_int (fun _ _ => rfl))) (pss_cons (ps_asg (pe_op op_add (pv 3) pe_int) (pg_sub (pv 0) pe_int set_list)) (pss_cons (ps_set (i := 4) sc_law_draw.nd rfl (Or.inl rfl) (pe_op op_add (pe_op op_mul pe_int (pv 3)) pe_int)) (pss_cons (ps_if (pt_cmpR (op_neD hr.units) (pe_ix ix_list (pv 0) pe_int (fun _ _ => rfl)) (pe_lst pa_nil) (nomark _)) (pss_one (ps_set (i := 4) sc_law_draw.nd rfl (Or.inl rfl) (pe_ix ix_list (pe_ix ix_list (pv 0) pe_int (fun _ _ => rfl)) (pe_op op_mod (pe_callTy call_int1 (by rfl) T.z_int (by decide +kernel) (pa_cons (pv 3) pa_nil)) (pe_callB call_len_seq (by rfl) T.z_len PySem.boot_len (pa_cons (pe_ix ix_list (pv 0) pe_int (fun _ _ => rfl)) pa_nil))) (fun _ _ => rfl)))) pss_nil) (pss_cons (ps_if (PW.pt (pw_and (pt_cmpR op_lt (pv 3) (pe_callB call_len_seq (by rfl) T.z_len PySem.boot_len (pa_cons (pe_ix ix_list (pv 0) pe_int (fun _ _ => rfl)) pa_nil)) (nomark _)) (pw_and1 (pt_cmpR op_ge (pe_callB call_abs (by rfl) T.z_abs (by decide +kernel) (pa_cons (pv 4) pa_nil)) (pe_op op_pow pe_int pe_int) (nomark _))))) (pss_cons (ps_set (i := 5) sc_law_draw.nd rfl (Or.inl rfl) (pe_op op_add (pe_op op_mul pe_int (pe_op op_sub (pe_callB call_abs (by rfl) T.z_abs (by decide +kernel) (pa_cons (pv 4) pa_nil)) (pe_op op_pow pe_int pe_int))) (pe_callTy call_int1 (by rfl) T.z_int (by decide +kernel) (pa_cons (pe_cmpR op_lt (pv 4) pe_int (nomark _)) pa_nil)))) (pss_cons (ps_asg (pe_op op_fdivW (pe_callTy call_int1 (by rfl) T.z_int (by decide +kernel) (pa_cons (pv 5) pa_nil)) (pv 1)) (pg_sub (pv 0) pe_int set_list)) (pss_one (ps_ret (pe_op op_mod (pe_callTy call_int1 (by rfl) T.z_int (by decide +kernel) (pa_cons (pv 5) pa_nil)) (pv 1)))))) pss_nil) (pss_cons (ps_set (i := 6) sc_law_draw.nd rfl (Or.inl rfl) (pe_op op_mod (pe_callTy call_int1 (by rfl) T.z_int (by decide +kernel) (pa_cons (pe_op op_pow (pe_op op_add (pe_op op_add (pe_op op_mod (pe_callTy call_int1 (by rfl) T.z_int (by decide +kernel) (pa_cons (pv 4) pa_nil)) pe_int) (pe_op op_mul pe_int (pv 3))) pe_int) pe_int) pa_nil)) pe_int)) (pss_cons (ps_set (i := 6) sc_law_draw.nd rfl (Or.inl rfl) (pe_op op_mod (pe_callTy call_int1 (by rfl) T.z_int (by decide +kernel) (pa_cons (pe_op op_pow (pe_op op_add (pe_op op_add (pe_op op_mul (pv 6) (pe_op op_add (pe_op op_mul pe_int (pv 3)) pe_int)) (pe_op op_mul (pe_op op_mul pe_int (pv 3)) (pv 3))) pe_int) pe_int) pa_nil)) pe_int)) (pss_one (ps_ret (pe_op op_mod (pe_callTy call_int1 (by rfl) T.z_int (by decide +kernel) (pa_cons (pe_op op_fdivW (pv 6) pe_int) pa_nil)) (pv 1)))))))))))), ?_⟩
    refine ⟨_, rfl, p, _, 2, .int g, rfl, rfl, SqL.of hp, rfl, _, _, rfl, rfl, _, rfl, ?_⟩
    refine ite2 (fun hg => ?_) (fun hg => ?_)
    · refine ⟨_, rfl, p, _, 2, .int g, rfl, rfl, SqL.of hp, rfl, .inl ⟨_, rfl, _, rfl, _, _, rfl, rfl, hn, ?_⟩⟩
      refine ⟨_, rfl, p, _, 2, .int g, rfl, rfl, SqL.of hp, rfl, .inl ⟨_, rfl, _, rfl, _, _, rfl, rfl, wn _, ?_⟩⟩
      refine ⟨_, rfl, p, _, 2, 2, rfl, rfl, hp, rfl, ?_⟩
      refine ⟨_, rfl, ?_⟩
      refine k (g % n) i (g / n) _ (Int.emod_nonneg _ (by omega)) (Int.emod_lt_of_pos _ hn) (Int.le_refl _) (by omega) (Int.ediv_nonneg g0 (by omega)) (fun b o e => e)
    · refine ⟨_, rfl, p, _, 1, .int i, rfl, rfl, SqL.of hp, rfl, ?_⟩
      refine ⟨_, rfl, _, _, rfl, rfl, ?_⟩
      refine ⟨_, rfl, p, _, 1, 1, rfl, rfl, hp, rfl, ?_⟩
      refine ⟨_, rfl, _, _, rfl, rfl, .inl ⟨by decide, by decide⟩, _, _, rfl, rfl, ?_⟩
      have hp2 : upd H p (.lst [.ref lq, .int (i + 1), .int g]) p = some (.lst [.ref lq, .int (i + 1), .int g]) := upd_same
      have hq2 : upd H p (.lst [.ref lq, .int (i + 1), .int g]) lq = some (.lst (ns.map V.int)) := by rw [upd_ne npq.symm]; exact hq
      refine ⟨_, rfl, p, _, 0, .ref lq, rfl, rfl, SqL.of hp2, rfl, Nat.zero_le _, fun l0 hl0 => ?_⟩
      have hl1 : upd H p (.lst [.ref lq, .int (i + 1), .int g]) l0 = none := hl0
      have nl1 : lq ≠ l0 := fun e => by
        rw [← e] at hl1
        exact absurd (hq2.symm.trans hl1) (by intro z; cases z)
      have nl2 : p ≠ l0 := fun e => by
        rw [← e] at hl1
        exact absurd (hp2.symm.trans hl1) (by intro z; cases z)
      have hp3 : upd (upd H p (.lst [.ref lq, .int (i + 1), .int g])) l0 (.lst []) p = some (.lst [.ref lq, .int (i + 1), .int g]) := (upd_ne nl2).trans hp2
      have hq3 : upd (upd H p (.lst [.ref lq, .int (i + 1), .int g])) l0 (.lst []) lq = some (.lst (ns.map V.int)) := (upd_ne nl1).trans hq2
      refine ⟨_, _, .lst (SqL.of hq3) (ints_dp ns), .lst (SqL.of upd_same) .nil, ints_shaped ns, ints_shaped [], _, rfl, ?_⟩
      refine ite2 (fun h5 => ?_) (fun h5 => ?_)
      · obtain ⟨c, hc⟩ := cell_at (ns := ns) (i := i) h5
        refine ⟨_, rfl, p, _, 0, .ref lq, rfl, rfl, SqL.of hp3, rfl, _, rfl, .inl ⟨_, rfl, _, rfl, p, _, 0, .ref lq, rfl, rfl, SqL.of hp3, rfl, lq, _, rfl, .inl (SqL.of hq3), _, _, rfl, rfl, ?_, lq, _, _, .int c, rfl, rfl, SqL.of hq3, hc, ?_⟩⟩
        · exact cell_pos h5
        · refine ⟨_, rfl, _, rfl, p, _, 0, .ref lq, rfl, rfl, SqL.of hp3, rfl, lq, _, rfl, .inl (SqL.of hq3), _, _, rfl, rfl, _, rfl, ?_⟩
          refine ite2 (fun h6 => ?_) (fun h6 => ?_)
          · refine ⟨_, rfl, _, rfl, _, _, rfl, rfl, ⟨by decide, by decide, by decide⟩, _, _, rfl, rfl, _, rfl, ?_⟩
            refine ite2 (fun h7 => ?_) (fun h7 => ?_)
            · have hG := great h7
              refine ⟨_, rfl, _, rfl, _, _, rfl, rfl, ⟨by decide, by decide, by decide⟩, _, _, rfl, rfl, _, _, rfl, rfl, .inl ⟨by decide, by decide⟩, _, rfl, _, _, rfl, rfl, .inr ⟨_, rfl, _, _, rfl, rfl, ?_⟩⟩
              refine ⟨_, rfl, .inl ⟨_, rfl, _, rfl, _, _, rfl, rfl, wn _, _, rfl, p, _, 2, 2, rfl, rfl, hp3, rfl, ?_⟩⟩
              refine ⟨_, rfl, .inl ⟨_, rfl, _, rfl, _, _, rfl, rfl, hn, ?_⟩⟩
              exact k _ (i + 1) _ _ (Int.emod_nonneg _ (by omega)) (Int.emod_lt_of_pos _ hn) (by omega) (Int.le_refl _) (Int.ediv_nonneg hG (by omega)) (heap1 hl1)
            · refine ⟨_, rfl, .inl ⟨_, rfl, _, _, rfl, rfl, posA, _, rfl, _, _, rfl, rfl, .inl ⟨by decide, by decide⟩, _, _, rfl, rfl, _, _, rfl, rfl, _, _, rfl, rfl, ⟨by decide, by decide, size1 c i0 i9⟩, .inl ⟨_, rfl, _, _, rfl, rfl, posB, ?_⟩⟩⟩
              have hm0 := mix0 ((c % 2147483543 + 61228 * i + 400) ^ (5 : Int).toNat)
              have hm1 := mix1 ((c % 2147483543 + 61228 * i + 400) ^ (5 : Int).toNat)
              refine ⟨_, rfl, _, rfl, _, _, rfl, rfl, .inl ⟨by decide, by decide⟩, _, _, rfl, rfl, _, _, rfl, rfl, .inl ⟨by show -(2 ^ 64) < _; omega, by show _ < 2 ^ 64; omega⟩, _, rfl, _, _, rfl, rfl, .inl ⟨by decide, by decide⟩, _, rfl, _, _, rfl, rfl, .inr ⟨by omega, by omega⟩, _, _, rfl, rfl, _, _, rfl, rfl, _, _, rfl, rfl, ⟨by decide, by decide, size2 hm0 hm1 i0 i9⟩, .inl ⟨_, rfl, _, _, rfl, rfl, posC, ?_⟩⟩
              refine ⟨_, rfl, _, _, rfl, rfl, ⟨by decide, by decide⟩, .inl ⟨_, rfl, _, rfl, _, _, rfl, rfl, hn, ?_⟩⟩
              exact k _ (i + 1) g _ (Int.emod_nonneg _ (by omega)) (Int.emod_lt_of_pos _ hn) (by omega) (Int.le_refl _) g0 (heap0 hl1)
          · refine iteF ?_
            refine ⟨_, rfl, .inl ⟨_, rfl, _, _, rfl, rfl, posA, _, rfl, _, _, rfl, rfl, .inl ⟨by decide, by decide⟩, _, _, rfl, rfl, _, _, rfl, rfl, _, _, rfl, rfl, ⟨by decide, by decide, size1 c i0 i9⟩, .inl ⟨_, rfl, _, _, rfl, rfl, posB, ?_⟩⟩⟩
            have hm0 := mix0 ((c % 2147483543 + 61228 * i + 400) ^ (5 : Int).toNat)
            have hm1 := mix1 ((c % 2147483543 + 61228 * i + 400) ^ (5 : Int).toNat)
            refine ⟨_, rfl, _, rfl, _, _, rfl, rfl, .inl ⟨by decide, by decide⟩, _, _, rfl, rfl, _, _, rfl, rfl, .inl ⟨by show -(2 ^ 64) < _; omega, by show _ < 2 ^ 64; omega⟩, _, rfl, _, _, rfl, rfl, .inl ⟨by decide, by decide⟩, _, rfl, _, _, rfl, rfl, .inr ⟨by omega, by omega⟩, _, _, rfl, rfl, _, _, rfl, rfl, _, _, rfl, rfl, ⟨by decide, by decide, size2 hm0 hm1 i0 i9⟩, .inl ⟨_, rfl, _, _, rfl, rfl, posC, ?_⟩⟩
            refine ⟨_, rfl, _, _, rfl, rfl, ⟨by decide, by decide⟩, .inl ⟨_, rfl, _, rfl, _, _, rfl, rfl, hn, ?_⟩⟩
            exact k _ (i + 1) g _ (Int.emod_nonneg _ (by omega)) (Int.emod_lt_of_pos _ hn) (by omega) (Int.le_refl _) g0 (heap0 hl1)

      · refine tnext_of ?_
        refine ⟨_, rfl, _, rfl, p, _, 0, .ref lq, rfl, rfl, SqL.of hp3, rfl, lq, _, rfl, .inl (SqL.of hq3), _, _, rfl, rfl, _, rfl, ?_⟩
        refine ite2 (fun h6 => ?_) (fun h6 => ?_)
        · refine ⟨_, rfl, _, rfl, _, _, rfl, rfl, ⟨by decide, by decide, by decide⟩, _, _, rfl, rfl, _, rfl, ?_⟩
          refine ite2 (fun h7 => ?_) (fun h7 => ?_)
          · have hG := great h7
            refine ⟨_, rfl, _, rfl, _, _, rfl, rfl, ⟨by decide, by decide, by decide⟩, _, _, rfl, rfl, _, _, rfl, rfl, .inl ⟨by decide, by decide⟩, _, rfl, _, _, rfl, rfl, .inr ⟨_, rfl, _, _, rfl, rfl, ?_⟩⟩
            refine ⟨_, rfl, .inl ⟨_, rfl, _, rfl, _, _, rfl, rfl, wn _, _, rfl, p, _, 2, 2, rfl, rfl, hp3, rfl, ?_⟩⟩
            refine ⟨_, rfl, .inl ⟨_, rfl, _, rfl, _, _, rfl, rfl, hn, ?_⟩⟩
            exact k _ (i + 1) _ _ (Int.emod_nonneg _ (by omega)) (Int.emod_lt_of_pos _ hn) (by omega) (Int.le_refl _) (Int.ediv_nonneg hG (by omega)) (heap1 hl1)
          · refine ⟨_, rfl, .inl ⟨_, rfl, _, _, rfl, rfl, posA, _, rfl, _, _, rfl, rfl, .inl ⟨by decide, by decide⟩, _, _, rfl, rfl, _, _, rfl, rfl, _, _, rfl, rfl, ⟨by decide, by decide, size1 _ i0 i9⟩, .inl ⟨_, rfl, _, _, rfl, rfl, posB, ?_⟩⟩⟩
            have hm0 := mix0 (((40158 * i + 1038) % 2147483543 + 61228 * i + 400) ^ (5 : Int).toNat)
            have hm1 := mix1 (((40158 * i + 1038) % 2147483543 + 61228 * i + 400) ^ (5 : Int).toNat)
            refine ⟨_, rfl, _, rfl, _, _, rfl, rfl, .inl ⟨by decide, by decide⟩, _, _, rfl, rfl, _, _, rfl, rfl, .inl ⟨by show -(2 ^ 64) < _; omega, by show _ < 2 ^ 64; omega⟩, _, rfl, _, _, rfl, rfl, .inl ⟨by decide, by decide⟩, _, rfl, _, _, rfl, rfl, .inr ⟨by omega, by omega⟩, _, _, rfl, rfl, _, _, rfl, rfl, _, _, rfl, rfl, ⟨by decide, by decide, size2 hm0 hm1 i0 i9⟩, .inl ⟨_, rfl, _, _, rfl, rfl, posC, ?_⟩⟩
            refine ⟨_, rfl, _, _, rfl, rfl, ⟨by decide, by decide⟩, .inl ⟨_, rfl, _, rfl, _, _, rfl, rfl, hn, ?_⟩⟩
            exact k _ (i + 1) g _ (Int.emod_nonneg _ (by omega)) (Int.emod_lt_of_pos _ hn) (by omega) (Int.le_refl _) g0 (heap0 hl1)
        · refine iteF ?_
          refine ⟨_, rfl, .inl ⟨_, rfl, _, _, rfl, rfl, posA, _, rfl, _, _, rfl, rfl, .inl ⟨by decide, by decide⟩, _, _, rfl, rfl, _, _, rfl, rfl, _, _, rfl, rfl, ⟨by decide, by decide, size1 _ i0 i9⟩, .inl ⟨_, rfl, _, _, rfl, rfl, posB, ?_⟩⟩⟩
          have hm0 := mix0 (((40158 * i + 1038) % 2147483543 + 61228 * i + 400) ^ (5 : Int).toNat)
          have hm1 := mix1 (((40158 * i + 1038) % 2147483543 + 61228 * i + 400) ^ (5 : Int).toNat)
          refine ⟨_, rfl, _, rfl, _, _, rfl, rfl, .inl ⟨by decide, by decide⟩, _, _, rfl, rfl, _, _, rfl, rfl, .inl ⟨by show -(2 ^ 64) < _; omega, by show _ < 2 ^ 64; omega⟩, _, rfl, _, _, rfl, rfl, .inl ⟨by decide, by decide⟩, _, rfl, _, _, rfl, rfl, .inr ⟨by omega, by omega⟩, _, _, rfl, rfl, _, _, rfl, rfl, _, _, rfl, rfl, ⟨by decide, by decide, size2 hm0 hm1 i0 i9⟩, .inl ⟨_, rfl, _, _, rfl, rfl, posC, ?_⟩⟩
          refine ⟨_, rfl, _, _, rfl, rfl, ⟨by decide, by decide⟩, .inl ⟨_, rfl, _, rfl, _, _, rfl, rfl, hn, ?_⟩⟩
          exact k _ (i + 1) g _ (Int.emod_nonneg _ (by omega)) (Int.emod_lt_of_pos _ hn) (by omega) (Int.le_refl _) g0 (heap0 hl1)
end
end K1

set_option Elab.async false
set_option linter.all false
set_option maxRecDepth 100000
set_option maxHeartbeats 0
/-! K1T: the law's turn, reckoned for all pairs of values. -/
namespace K1
open PySem L2 RI
noncomputable def f_turn : FS := (fSeq (fAsg (fCall 2 1 f_law_made [] (fCons (fVar 4) (fCons (fVar 5) fNil))) (gfName 6)) (fForG 0 [7, 8, 9, 10] (fCons (fCB gLen (fCons (fVar 6) fNil)) fNil) (gfName 7) (fSeq (fAsg (fOp gIx (fVar 6) (fVar 7)) (gfTup 3 (gfCons (gfName 8) (gfCons (gfName 9) (gfCons (gfName 10) gfNil))))) (fSeq (fIfS (fOr (fB (fOp (gEqX true) (fCB gRepr (fCons (fCall 2 0 f_law_fields [] (fCons (fVar 8) (fCons (fVar 9) fNil))) fNil)) (fCB gRepr (fCons (fVar 10) fNil)))) (fB (fOp (gEqD true) (fCall 1 2 f_law_classes [] (fCons (fVar 8) fNil)) (fLst (fCons (fOp gIx (fVar 2) (fVar 7)) fNil))))) (fRet (fC (.bl false))) fNext) (fSeq (fIfS (fOr (fNot (fB (fCB (gIsX isT ncT) (fCons (fVar 8) (fCons (fC (.cls 0)) fNil))))) (fNot (fB (fCB (gIsX isT ncT) (fCons (fVar 8) (fCons (fC (.ty "ValueError")) fNil)))))) (fRet (fC (.bl false))) fNext) (fIfS (fOr (fB (fCB (gIsX isT ncT) (fCons (fVar 8) (fCons (fC (.ty "LookupError")) fNil)))) (fOr (fB (fCB (gIsX isT ncT) (fCons (fVar 8) (fCons (fC (.ty "TypeError")) fNil)))) (fB (fCB (gIsX isT ncT) (fCons (fVar 8) (fCons (fC (.ty "ArithmeticError")) fNil)))))) (fRet (fC (.bl false))) fNext))))))
noncomputable def f_val : FE := (fCall 1 1 f_law_value [] (fCons (fVar 1) fNil))
noncomputable def f_fin : FS := (fRet (fAndV (fNotV (fCB (gIsX isT ncT) (fCons (fEx0 0 (fCons (fC (.str "a")) fNil)) (fCons (fC (.cls 1)) fNil)))) (fCB (gIsX isT ncT) (fCons (fEx0 0 (fCons (fC (.str "a")) fNil)) (fCons (fC (.ty "ValueError")) fNil)))))
noncomputable def EA : EE := setR E0 2 (some (.ref 2))
noncomputable def SA : SS := pushS S0 (.lst [.int 0, .int 1, .int 2, .int 3, .int 4, .int 5, .int 6, .int 7, .int 8, .int 9, .int 10, .int 11, .int 12, .int 13, .int 14, .int 15, .int 16, .int 17, .int 18, .int 5, .int 19, .int 20, .int 8])
noncomputable def EB : EE := wipeE EA [3, 4, 5, 6, 7, 8, 9, 10]
noncomputable def SB : SS := liftP (8 * 2) SA
noncomputable def EC : EE := setR EB 3 none
noncomputable def KB : KS := { nx := fun E3 S3 => eeLe E3 EB && ssLe 2 S3 SB, rt := kEnd.rt, bk := fun _ _ => false, ct := fun E3 S3 => eeLe E3 EB && ssLe 2 S3 SB }
def vals (n : Nat) : List W := [.non, .bl true, .int 0, .int (-1), .int 1000000000000000000000000000000000000000, .str "", .str "a", .str "two words", .ref n, .ref (n + 1), .ref (n + 2), .ref (n + 3), .bl false]
noncomputable def more (n : Nat) (S : SS) : SS := pushS (pushS (pushS (pushS (pushS S (.tup [])) (.tup [.str "a", .int 1])) (.lst [])) (.dK [])) (.lst (vals n))
noncomputable def SC : SS := setS (more 3 SB) 1 (.pen 0 17)
noncomputable def SD : SS := setS (more 8 SC) 1 (.pen 0 18)
theorem val1 (k : KW) : f_val EC SB k = allB (fun w => k w SC) (vals 3) := rfl
theorem val2 (k : KW) : f_val EC SC k = allB (fun w => k w SD) (vals 8) := rfl
noncomputable def chk (a b : W) : Bool := f_turn KB (setR (setR EC 4 (some a)) 5 (some b)) SD
noncomputable def chks (a : W) : Bool := allB (fun b => chk a b) (vals 8)
theorem allB_mk {f : W → Bool} {a : W} {l : List W} (h : f a = true) (g : allB f l = true) : allB f (a :: l) = true := by
  show (f a && allB f l) = true
  rw [h, g]
  rfl
theorem allB_congr {f g : W → Bool} (h : ∀ w, f w = g w) {l : List W} (q : allB g l = true) : allB f l = true := by
  have e : f = g := funext h
  rw [e]
  exact q
theorem and_mk {a b : Bool} (h : a = true) (g : b = true) : (a && b) = true := by
  rw [h, g]
  rfl
theorem par_eq (f g : FE) (h : FS) (i j : Nat) (K : KS) (E : EE) (S : SS) : fSeq (fPar i j (fCons f (fCons g fNil))) h K E S = f E S fun a S1 => g E S1 fun b S2 => h K (setR (setR E i (some a)) j (some b)) S2 := rfl
theorem asg_eq (f : FE) (h : FS) (i : Nat) (K : KS) (E : EE) (S : SS) : fSeq (fAsg f (gfName i)) h K E S = f E S fun w S1 => h K (setR E i (some w)) S1 := rfl
theorem forU_eq (n M : Nat) (vs : List Nat) (i : Nat) (b h : FS) (K : KS) (E : EE) (S : SS) : fSeq (fForU n M vs i b) h K E S = ((eeIn (lenR (liftP (n * M) S)) (wipeE E vs) && ssIn (lenR (liftP (n * M) S)) (liftP (n * M) S)) && (b { nx := fun E3 S3 => eeLe E3 (wipeE E vs) && ssLe M S3 (liftP (n * M) S), rt := K.rt, bk := fun _ _ => false, ct := fun E3 S3 => eeLe E3 (wipeE E vs) && ssLe M S3 (liftP (n * M) S) } (setR (wipeE E vs) i none) (liftP (n * M) S) && h K (wipeE E vs) (liftP (n * M) S))) := rfl
theorem c0_0 : chk .non .non = true := by decide +kernel
theorem c0_1 : chk .non (.bl true) = true := by decide +kernel
theorem c0_2 : chk .non (.int 0) = true := by decide +kernel
theorem c0_3 : chk .non (.int (-1)) = true := by decide +kernel
theorem c0_4 : chk .non (.int 1000000000000000000000000000000000000000) = true := by decide +kernel
theorem c0_5 : chk .non (.str "") = true := by decide +kernel
theorem c0_6 : chk .non (.str "a") = true := by decide +kernel
theorem c0_7 : chk .non (.str "two words") = true := by decide +kernel
theorem c0_8 : chk .non (.ref 8) = true := by decide +kernel
theorem c0_9 : chk .non (.ref (8 + 1)) = true := by decide +kernel
theorem c0_10 : chk .non (.ref (8 + 2)) = true := by decide +kernel
theorem c0_11 : chk .non (.ref (8 + 3)) = true := by decide +kernel
theorem c0_12 : chk .non (.bl false) = true := by decide +kernel
theorem c0 : chks .non = true := by
  unfold chks vals
  exact (allB_mk c0_0 (allB_mk c0_1 (allB_mk c0_2 (allB_mk c0_3 (allB_mk c0_4 (allB_mk c0_5 (allB_mk c0_6 (allB_mk c0_7 (allB_mk c0_8 (allB_mk c0_9 (allB_mk c0_10 (allB_mk c0_11 (allB_mk c0_12 rfl)))))))))))))
theorem c1_0 : chk (.bl true) .non = true := by decide +kernel
theorem c1_1 : chk (.bl true) (.bl true) = true := by decide +kernel
theorem c1_2 : chk (.bl true) (.int 0) = true := by decide +kernel
theorem c1_3 : chk (.bl true) (.int (-1)) = true := by decide +kernel
theorem c1_4 : chk (.bl true) (.int 1000000000000000000000000000000000000000) = true := by decide +kernel
theorem c1_5 : chk (.bl true) (.str "") = true := by decide +kernel
theorem c1_6 : chk (.bl true) (.str "a") = true := by decide +kernel
theorem c1_7 : chk (.bl true) (.str "two words") = true := by decide +kernel
theorem c1_8 : chk (.bl true) (.ref 8) = true := by decide +kernel
theorem c1_9 : chk (.bl true) (.ref (8 + 1)) = true := by decide +kernel
theorem c1_10 : chk (.bl true) (.ref (8 + 2)) = true := by decide +kernel
theorem c1_11 : chk (.bl true) (.ref (8 + 3)) = true := by decide +kernel
theorem c1_12 : chk (.bl true) (.bl false) = true := by decide +kernel
theorem c1 : chks (.bl true) = true := by
  unfold chks vals
  exact (allB_mk c1_0 (allB_mk c1_1 (allB_mk c1_2 (allB_mk c1_3 (allB_mk c1_4 (allB_mk c1_5 (allB_mk c1_6 (allB_mk c1_7 (allB_mk c1_8 (allB_mk c1_9 (allB_mk c1_10 (allB_mk c1_11 (allB_mk c1_12 rfl)))))))))))))
theorem c2_0 : chk (.int 0) .non = true := by decide +kernel
theorem c2_1 : chk (.int 0) (.bl true) = true := by decide +kernel
theorem c2_2 : chk (.int 0) (.int 0) = true := by decide +kernel
theorem c2_3 : chk (.int 0) (.int (-1)) = true := by decide +kernel
theorem c2_4 : chk (.int 0) (.int 1000000000000000000000000000000000000000) = true := by decide +kernel
theorem c2_5 : chk (.int 0) (.str "") = true := by decide +kernel
theorem c2_6 : chk (.int 0) (.str "a") = true := by decide +kernel
theorem c2_7 : chk (.int 0) (.str "two words") = true := by decide +kernel
theorem c2_8 : chk (.int 0) (.ref 8) = true := by decide +kernel
theorem c2_9 : chk (.int 0) (.ref (8 + 1)) = true := by decide +kernel
theorem c2_10 : chk (.int 0) (.ref (8 + 2)) = true := by decide +kernel
theorem c2_11 : chk (.int 0) (.ref (8 + 3)) = true := by decide +kernel
theorem c2_12 : chk (.int 0) (.bl false) = true := by decide +kernel
theorem c2 : chks (.int 0) = true := by
  unfold chks vals
  exact (allB_mk c2_0 (allB_mk c2_1 (allB_mk c2_2 (allB_mk c2_3 (allB_mk c2_4 (allB_mk c2_5 (allB_mk c2_6 (allB_mk c2_7 (allB_mk c2_8 (allB_mk c2_9 (allB_mk c2_10 (allB_mk c2_11 (allB_mk c2_12 rfl)))))))))))))
theorem c3_0 : chk (.int (-1)) .non = true := by decide +kernel
theorem c3_1 : chk (.int (-1)) (.bl true) = true := by decide +kernel
theorem c3_2 : chk (.int (-1)) (.int 0) = true := by decide +kernel
theorem c3_3 : chk (.int (-1)) (.int (-1)) = true := by decide +kernel
theorem c3_4 : chk (.int (-1)) (.int 1000000000000000000000000000000000000000) = true := by decide +kernel
theorem c3_5 : chk (.int (-1)) (.str "") = true := by decide +kernel
theorem c3_6 : chk (.int (-1)) (.str "a") = true := by decide +kernel
theorem c3_7 : chk (.int (-1)) (.str "two words") = true := by decide +kernel
theorem c3_8 : chk (.int (-1)) (.ref 8) = true := by decide +kernel
theorem c3_9 : chk (.int (-1)) (.ref (8 + 1)) = true := by decide +kernel
theorem c3_10 : chk (.int (-1)) (.ref (8 + 2)) = true := by decide +kernel
theorem c3_11 : chk (.int (-1)) (.ref (8 + 3)) = true := by decide +kernel
theorem c3_12 : chk (.int (-1)) (.bl false) = true := by decide +kernel
theorem c3 : chks (.int (-1)) = true := by
  unfold chks vals
  exact (allB_mk c3_0 (allB_mk c3_1 (allB_mk c3_2 (allB_mk c3_3 (allB_mk c3_4 (allB_mk c3_5 (allB_mk c3_6 (allB_mk c3_7 (allB_mk c3_8 (allB_mk c3_9 (allB_mk c3_10 (allB_mk c3_11 (allB_mk c3_12 rfl)))))))))))))
theorem c4_0 : chk (.int 1000000000000000000000000000000000000000) .non = true := by decide +kernel
theorem c4_1 : chk (.int 1000000000000000000000000000000000000000) (.bl true) = true := by decide +kernel
theorem c4_2 : chk (.int 1000000000000000000000000000000000000000) (.int 0) = true := by decide +kernel
theorem c4_3 : chk (.int 1000000000000000000000000000000000000000) (.int (-1)) = true := by decide +kernel
theorem c4_4 : chk (.int 1000000000000000000000000000000000000000) (.int 1000000000000000000000000000000000000000) = true := by decide +kernel
theorem c4_5 : chk (.int 1000000000000000000000000000000000000000) (.str "") = true := by decide +kernel
theorem c4_6 : chk (.int 1000000000000000000000000000000000000000) (.str "a") = true := by decide +kernel
theorem c4_7 : chk (.int 1000000000000000000000000000000000000000) (.str "two words") = true := by decide +kernel
theorem c4_8 : chk (.int 1000000000000000000000000000000000000000) (.ref 8) = true := by decide +kernel
theorem c4_9 : chk (.int 1000000000000000000000000000000000000000) (.ref (8 + 1)) = true := by decide +kernel
theorem c4_10 : chk (.int 1000000000000000000000000000000000000000) (.ref (8 + 2)) = true := by decide +kernel
theorem c4_11 : chk (.int 1000000000000000000000000000000000000000) (.ref (8 + 3)) = true := by decide +kernel
theorem c4_12 : chk (.int 1000000000000000000000000000000000000000) (.bl false) = true := by decide +kernel
theorem c4 : chks (.int 1000000000000000000000000000000000000000) = true := by
  unfold chks vals
  exact (allB_mk c4_0 (allB_mk c4_1 (allB_mk c4_2 (allB_mk c4_3 (allB_mk c4_4 (allB_mk c4_5 (allB_mk c4_6 (allB_mk c4_7 (allB_mk c4_8 (allB_mk c4_9 (allB_mk c4_10 (allB_mk c4_11 (allB_mk c4_12 rfl)))))))))))))
theorem c5_0 : chk (.str "") .non = true := by decide +kernel
theorem c5_1 : chk (.str "") (.bl true) = true := by decide +kernel
theorem c5_2 : chk (.str "") (.int 0) = true := by decide +kernel
theorem c5_3 : chk (.str "") (.int (-1)) = true := by decide +kernel
theorem c5_4 : chk (.str "") (.int 1000000000000000000000000000000000000000) = true := by decide +kernel
theorem c5_5 : chk (.str "") (.str "") = true := by decide +kernel
theorem c5_6 : chk (.str "") (.str "a") = true := by decide +kernel
theorem c5_7 : chk (.str "") (.str "two words") = true := by decide +kernel
theorem c5_8 : chk (.str "") (.ref 8) = true := by decide +kernel
theorem c5_9 : chk (.str "") (.ref (8 + 1)) = true := by decide +kernel
theorem c5_10 : chk (.str "") (.ref (8 + 2)) = true := by decide +kernel
theorem c5_11 : chk (.str "") (.ref (8 + 3)) = true := by decide +kernel
theorem c5_12 : chk (.str "") (.bl false) = true := by decide +kernel
theorem c5 : chks (.str "") = true := by
  unfold chks vals
  exact (allB_mk c5_0 (allB_mk c5_1 (allB_mk c5_2 (allB_mk c5_3 (allB_mk c5_4 (allB_mk c5_5 (allB_mk c5_6 (allB_mk c5_7 (allB_mk c5_8 (allB_mk c5_9 (allB_mk c5_10 (allB_mk c5_11 (allB_mk c5_12 rfl)))))))))))))
theorem c6_0 : chk (.str "a") .non = true := by decide +kernel
theorem c6_1 : chk (.str "a") (.bl true) = true := by decide +kernel
theorem c6_2 : chk (.str "a") (.int 0) = true := by decide +kernel
theorem c6_3 : chk (.str "a") (.int (-1)) = true := by decide +kernel
theorem c6_4 : chk (.str "a") (.int 1000000000000000000000000000000000000000) = true := by decide +kernel
theorem c6_5 : chk (.str "a") (.str "") = true := by decide +kernel
theorem c6_6 : chk (.str "a") (.str "a") = true := by decide +kernel
theorem c6_7 : chk (.str "a") (.str "two words") = true := by decide +kernel
theorem c6_8 : chk (.str "a") (.ref 8) = true := by decide +kernel
theorem c6_9 : chk (.str "a") (.ref (8 + 1)) = true := by decide +kernel
theorem c6_10 : chk (.str "a") (.ref (8 + 2)) = true := by decide +kernel
theorem c6_11 : chk (.str "a") (.ref (8 + 3)) = true := by decide +kernel
theorem c6_12 : chk (.str "a") (.bl false) = true := by decide +kernel
theorem c6 : chks (.str "a") = true := by
  unfold chks vals
  exact (allB_mk c6_0 (allB_mk c6_1 (allB_mk c6_2 (allB_mk c6_3 (allB_mk c6_4 (allB_mk c6_5 (allB_mk c6_6 (allB_mk c6_7 (allB_mk c6_8 (allB_mk c6_9 (allB_mk c6_10 (allB_mk c6_11 (allB_mk c6_12 rfl)))))))))))))
theorem c7_0 : chk (.str "two words") .non = true := by decide +kernel
theorem c7_1 : chk (.str "two words") (.bl true) = true := by decide +kernel
theorem c7_2 : chk (.str "two words") (.int 0) = true := by decide +kernel
theorem c7_3 : chk (.str "two words") (.int (-1)) = true := by decide +kernel
theorem c7_4 : chk (.str "two words") (.int 1000000000000000000000000000000000000000) = true := by decide +kernel
theorem c7_5 : chk (.str "two words") (.str "") = true := by decide +kernel
theorem c7_6 : chk (.str "two words") (.str "a") = true := by decide +kernel
theorem c7_7 : chk (.str "two words") (.str "two words") = true := by decide +kernel
theorem c7_8 : chk (.str "two words") (.ref 8) = true := by decide +kernel
theorem c7_9 : chk (.str "two words") (.ref (8 + 1)) = true := by decide +kernel
theorem c7_10 : chk (.str "two words") (.ref (8 + 2)) = true := by decide +kernel
theorem c7_11 : chk (.str "two words") (.ref (8 + 3)) = true := by decide +kernel
theorem c7_12 : chk (.str "two words") (.bl false) = true := by decide +kernel
theorem c7 : chks (.str "two words") = true := by
  unfold chks vals
  exact (allB_mk c7_0 (allB_mk c7_1 (allB_mk c7_2 (allB_mk c7_3 (allB_mk c7_4 (allB_mk c7_5 (allB_mk c7_6 (allB_mk c7_7 (allB_mk c7_8 (allB_mk c7_9 (allB_mk c7_10 (allB_mk c7_11 (allB_mk c7_12 rfl)))))))))))))
theorem c8_0 : chk (.ref 3) .non = true := by decide +kernel
theorem c8_1 : chk (.ref 3) (.bl true) = true := by decide +kernel
theorem c8_2 : chk (.ref 3) (.int 0) = true := by decide +kernel
theorem c8_3 : chk (.ref 3) (.int (-1)) = true := by decide +kernel
theorem c8_4 : chk (.ref 3) (.int 1000000000000000000000000000000000000000) = true := by decide +kernel
theorem c8_5 : chk (.ref 3) (.str "") = true := by decide +kernel
theorem c8_6 : chk (.ref 3) (.str "a") = true := by decide +kernel
theorem c8_7 : chk (.ref 3) (.str "two words") = true := by decide +kernel
theorem c8_8 : chk (.ref 3) (.ref 8) = true := by decide +kernel
theorem c8_9 : chk (.ref 3) (.ref (8 + 1)) = true := by decide +kernel
theorem c8_10 : chk (.ref 3) (.ref (8 + 2)) = true := by decide +kernel
theorem c8_11 : chk (.ref 3) (.ref (8 + 3)) = true := by decide +kernel
theorem c8_12 : chk (.ref 3) (.bl false) = true := by decide +kernel
theorem c8 : chks (.ref 3) = true := by
  unfold chks vals
  exact (allB_mk c8_0 (allB_mk c8_1 (allB_mk c8_2 (allB_mk c8_3 (allB_mk c8_4 (allB_mk c8_5 (allB_mk c8_6 (allB_mk c8_7 (allB_mk c8_8 (allB_mk c8_9 (allB_mk c8_10 (allB_mk c8_11 (allB_mk c8_12 rfl)))))))))))))
theorem c9_0 : chk (.ref (3 + 1)) .non = true := by decide +kernel
theorem c9_1 : chk (.ref (3 + 1)) (.bl true) = true := by decide +kernel
theorem c9_2 : chk (.ref (3 + 1)) (.int 0) = true := by decide +kernel
theorem c9_3 : chk (.ref (3 + 1)) (.int (-1)) = true := by decide +kernel
theorem c9_4 : chk (.ref (3 + 1)) (.int 1000000000000000000000000000000000000000) = true := by decide +kernel
theorem c9_5 : chk (.ref (3 + 1)) (.str "") = true := by decide +kernel
theorem c9_6 : chk (.ref (3 + 1)) (.str "a") = true := by decide +kernel
theorem c9_7 : chk (.ref (3 + 1)) (.str "two words") = true := by decide +kernel
theorem c9_8 : chk (.ref (3 + 1)) (.ref 8) = true := by decide +kernel
theorem c9_9 : chk (.ref (3 + 1)) (.ref (8 + 1)) = true := by decide +kernel
theorem c9_10 : chk (.ref (3 + 1)) (.ref (8 + 2)) = true := by decide +kernel
theorem c9_11 : chk (.ref (3 + 1)) (.ref (8 + 3)) = true := by decide +kernel
theorem c9_12 : chk (.ref (3 + 1)) (.bl false) = true := by decide +kernel
theorem c9 : chks (.ref (3 + 1)) = true := by
  unfold chks vals
  exact (allB_mk c9_0 (allB_mk c9_1 (allB_mk c9_2 (allB_mk c9_3 (allB_mk c9_4 (allB_mk c9_5 (allB_mk c9_6 (allB_mk c9_7 (allB_mk c9_8 (allB_mk c9_9 (allB_mk c9_10 (allB_mk c9_11 (allB_mk c9_12 rfl)))))))))))))
theorem c10_0 : chk (.ref (3 + 2)) .non = true := by decide +kernel
theorem c10_1 : chk (.ref (3 + 2)) (.bl true) = true := by decide +kernel
theorem c10_2 : chk (.ref (3 + 2)) (.int 0) = true := by decide +kernel
theorem c10_3 : chk (.ref (3 + 2)) (.int (-1)) = true := by decide +kernel
theorem c10_4 : chk (.ref (3 + 2)) (.int 1000000000000000000000000000000000000000) = true := by decide +kernel
theorem c10_5 : chk (.ref (3 + 2)) (.str "") = true := by decide +kernel
theorem c10_6 : chk (.ref (3 + 2)) (.str "a") = true := by decide +kernel
theorem c10_7 : chk (.ref (3 + 2)) (.str "two words") = true := by decide +kernel
theorem c10_8 : chk (.ref (3 + 2)) (.ref 8) = true := by decide +kernel
theorem c10_9 : chk (.ref (3 + 2)) (.ref (8 + 1)) = true := by decide +kernel
theorem c10_10 : chk (.ref (3 + 2)) (.ref (8 + 2)) = true := by decide +kernel
theorem c10_11 : chk (.ref (3 + 2)) (.ref (8 + 3)) = true := by decide +kernel
theorem c10_12 : chk (.ref (3 + 2)) (.bl false) = true := by decide +kernel
theorem c10 : chks (.ref (3 + 2)) = true := by
  unfold chks vals
  exact (allB_mk c10_0 (allB_mk c10_1 (allB_mk c10_2 (allB_mk c10_3 (allB_mk c10_4 (allB_mk c10_5 (allB_mk c10_6 (allB_mk c10_7 (allB_mk c10_8 (allB_mk c10_9 (allB_mk c10_10 (allB_mk c10_11 (allB_mk c10_12 rfl)))))))))))))
theorem c11_0 : chk (.ref (3 + 3)) .non = true := by decide +kernel
theorem c11_1 : chk (.ref (3 + 3)) (.bl true) = true := by decide +kernel
theorem c11_2 : chk (.ref (3 + 3)) (.int 0) = true := by decide +kernel
theorem c11_3 : chk (.ref (3 + 3)) (.int (-1)) = true := by decide +kernel
theorem c11_4 : chk (.ref (3 + 3)) (.int 1000000000000000000000000000000000000000) = true := by decide +kernel
theorem c11_5 : chk (.ref (3 + 3)) (.str "") = true := by decide +kernel
theorem c11_6 : chk (.ref (3 + 3)) (.str "a") = true := by decide +kernel
theorem c11_7 : chk (.ref (3 + 3)) (.str "two words") = true := by decide +kernel
theorem c11_8 : chk (.ref (3 + 3)) (.ref 8) = true := by decide +kernel
theorem c11_9 : chk (.ref (3 + 3)) (.ref (8 + 1)) = true := by decide +kernel
theorem c11_10 : chk (.ref (3 + 3)) (.ref (8 + 2)) = true := by decide +kernel
theorem c11_11 : chk (.ref (3 + 3)) (.ref (8 + 3)) = true := by decide +kernel
theorem c11_12 : chk (.ref (3 + 3)) (.bl false) = true := by decide +kernel
theorem c11 : chks (.ref (3 + 3)) = true := by
  unfold chks vals
  exact (allB_mk c11_0 (allB_mk c11_1 (allB_mk c11_2 (allB_mk c11_3 (allB_mk c11_4 (allB_mk c11_5 (allB_mk c11_6 (allB_mk c11_7 (allB_mk c11_8 (allB_mk c11_9 (allB_mk c11_10 (allB_mk c11_11 (allB_mk c11_12 rfl)))))))))))))
theorem c12_0 : chk (.bl false) .non = true := by decide +kernel
theorem c12_1 : chk (.bl false) (.bl true) = true := by decide +kernel
theorem c12_2 : chk (.bl false) (.int 0) = true := by decide +kernel
theorem c12_3 : chk (.bl false) (.int (-1)) = true := by decide +kernel
theorem c12_4 : chk (.bl false) (.int 1000000000000000000000000000000000000000) = true := by decide +kernel
theorem c12_5 : chk (.bl false) (.str "") = true := by decide +kernel
theorem c12_6 : chk (.bl false) (.str "a") = true := by decide +kernel
theorem c12_7 : chk (.bl false) (.str "two words") = true := by decide +kernel
theorem c12_8 : chk (.bl false) (.ref 8) = true := by decide +kernel
theorem c12_9 : chk (.bl false) (.ref (8 + 1)) = true := by decide +kernel
theorem c12_10 : chk (.bl false) (.ref (8 + 2)) = true := by decide +kernel
theorem c12_11 : chk (.bl false) (.ref (8 + 3)) = true := by decide +kernel
theorem c12_12 : chk (.bl false) (.bl false) = true := by decide +kernel
theorem c12 : chks (.bl false) = true := by
  unfold chks vals
  exact (allB_mk c12_0 (allB_mk c12_1 (allB_mk c12_2 (allB_mk c12_3 (allB_mk c12_4 (allB_mk c12_5 (allB_mk c12_6 (allB_mk c12_7 (allB_mk c12_8 (allB_mk c12_9 (allB_mk c12_10 (allB_mk c12_11 (allB_mk c12_12 rfl)))))))))))))
theorem call : allB (fun a => chks a) (vals 3) = true := by
  unfold vals
  exact (allB_mk c0 (allB_mk c1 (allB_mk c2 (allB_mk c3 (allB_mk c4 (allB_mk c5 (allB_mk c6 (allB_mk c7 (allB_mk c8 (allB_mk c9 (allB_mk c10 (allB_mk c11 (allB_mk c12 rfl)))))))))))))
noncomputable def f_body : FS := fSeq (fPar 4 5 (fCons f_val (fCons f_val fNil))) f_turn
noncomputable def f_plc : FE := (fLst (fCons (fC (.int 0)) (fCons (fC (.int 1)) (fCons (fC (.int 2)) (fCons (fC (.int 3)) (fCons (fC (.int 4)) (fCons (fC (.int 5)) (fCons (fC (.int 6)) (fCons (fC (.int 7)) (fCons (fC (.int 8)) (fCons (fC (.int 9)) (fCons (fC (.int 10)) (fCons (fC (.int 11)) (fCons (fC (.int 12)) (fCons (fC (.int 13)) (fCons (fC (.int 14)) (fCons (fC (.int 15)) (fCons (fC (.int 16)) (fCons (fC (.int 17)) (fCons (fC (.int 18)) (fCons (fC (.int 5)) (fCons (fC (.int 19)) (fCons (fC (.int 20)) (fCons (fC (.int 8)) fNil))))))))))))))))))))))))
theorem plc (k : KW) : f_plc E0 S0 k = k (.ref 2) SA := rfl
theorem body_true : f_body KB EC SB = true := by
  unfold f_body
  rw [par_eq, val1]
  refine allB_congr (fun a => ?_) call
  refine (val2 _).trans ?_
  unfold chks chk
  rfl
theorem ins : (eeIn (lenR SB) EB && ssIn (lenR SB) SB) = true := by decide +kernel
theorem fin : f_fin kEnd EB SB = true := by decide +kernel
noncomputable def f_all : FS := fSeq (fAsg f_plc (gfName 2)) (fSeq (fForU 8 2 [3, 4, 5, 6, 7, 8, 9, 10] 3 f_body) f_fin)
theorem all_true : f_all kEnd E0 S0 = true := by
  unfold f_all
  rw [asg_eq, plc, forU_eq]
  exact and_mk ins (and_mk body_true fin)
theorem rest_true : f_rest kEnd E0 S0 = true := by
  have e : f_rest = f_all := by
    unfold f_rest f_all f_plc f_body f_val f_turn f_fin
    rfl
  rw [e]
  exact all_true
end K1

set_option Elab.async false
set_option linter.all false
set_option maxRecDepth 100000
set_option maxHeartbeats 4000000
/-! K1Z: what the top has written, and the end. -/
namespace K1
open PySem PySem.Spec PyProof.Rows L2 RI
def fnd (K : PySem.W.Frag) (C : Addr) (x : Str) (s : String) : Bool := match PySem.W.findIn K (.ref C) x with
  | some (some (.builtin t)) => decide (t = s)
  | _ => false
def non (K : PySem.W.Frag) (C : Addr) (x : Str) : Bool := match PySem.W.findIn K (.ref C) x with
  | some none => true
  | _ => false
def bT : Option Bool → Bool
  | some true => true
  | _ => false
def tyT : Option Value → Bool
  | some (.type s) => decide (s = "type")
  | _ => false
def kitB (K : PySem.W.Frag) (C : Addr) (v : Value) (b : Bool) : Bool := match PySem.W.kitOne K (.ref C) v with
  | some c => bEq c b
  | none => false
def allN (f : Nat → Bool) : Nat → Bool
  | 0 => true
  | n + 1 => f n && allN f n
theorem allN_ok {f : Nat → Bool} : ∀ {n i : Nat}, allN f n = true → i < n → f i = true
  | n + 1, i, h, hi => by
    by_cases e : i = n
    · subst e; exact (band h).1
    · exact allN_ok (band h).2 (by omega)
def clsA (K : PySem.W.Frag) (C : Addr) : Bool := fnd K C "__setattr__" "object.__setattr__" && (bT (PySem.W.subIn K (.ref C) (.type "BaseException")) && (tyT (PySem.W.typeIn K (.ref C)) && PySem.W.keepIn K (.ref C)))
def clsB (K : PySem.W.Frag) (C : Addr) : Bool := fnd K C "__getattribute__" "BaseException.__getattribute__" && (non K C "__getattr__" && (PySem.W.hasDictIn K C && (fnd K C "__class__" "object.__class__" && bT (PySem.W.mroIn K C (.type "object")))))
def clsN (K : PySem.W.Frag) (C : Addr) : Bool := non K C "value" && (non K C "part" && (non K C "at" && (non K C "line" && (non K C "word" && (non K C "name" && (non K C "many" && (non K C "what" && non K C "most")))))))
def clsT (K : PySem.W.Frag) (C : Addr) : Bool := kitB K C (.type "ValueError") true && (kitB K C (.type "LookupError") false && (kitB K C (.type "TypeError") false && kitB K C (.type "ArithmeticError") false))
noncomputable def adrOf (cs : List Addr) (c : Nat) : Addr := match getR cs c with
  | some a => a
  | none => match cs with
    | a :: _ => a
    | [] => 0
noncomputable def bulkA (K : PySem.W.Frag) (adr : Nat → Addr) : Bool := allN (fun c => clsA K (adr c) && (clsB K (adr c) && clsT K (adr c))) 22
noncomputable def bulkN (K : PySem.W.Frag) (adr : Nat → Addr) : Bool := allN (fun c => clsN K (adr c)) 22
noncomputable def bulkP (K : PySem.W.Frag) (adr : Nat → Addr) : Bool := allN (fun c => allN (fun d => kitB K (adr c) (.ref (adr d)) (Nat.beq d 0 || Nat.beq d c)) 22) 22
section
variable {K : PySem.W.Frag} {C : Addr}
theorem fnd_ok {x : Str} {s : String} (h : fnd K C x s = true) : PySem.W.findIn K (.ref C) x = some (some (.builtin s)) := by
  unfold fnd at h
  split at h
  · rename_i t e
    rw [of_decide_eq_true h] at e
    exact e
  · cases h
theorem non_ok {x : Str} (h : non K C x = true) : PySem.W.findIn K (.ref C) x = some none := by
  unfold non at h
  split at h
  · assumption
  · cases h
theorem bT_ok {o : Option Bool} (h : bT o = true) : o = some true := by
  unfold bT at h
  split at h
  · rfl
  · cases h
theorem tyT_ok {o : Option Value} (h : tyT o = true) : o = some (.type "type") := by
  unfold tyT at h
  split at h
  · rw [of_decide_eq_true h]
  · cases h
theorem kitB_ok {v : Value} {b : Bool} (h : kitB K C v b = true) : PySem.W.kitOne K (.ref C) v = some b := by
  unfold kitB at h
  split at h
  · rename_i c e
    rw [e]
    cases c <;> cases b <;> first | rfl | cases h
  · cases h
def ClsX (K : PySem.W.Frag) (C : Addr) : Prop := ∃ nm q N bs bm sn sub ab col dd k0 k1 k2 k3 k5, K.lookup C = some (excClassObj nm q C N bs bm true sn sub ab col dd k0 k1 k2 k3 k5 "ValueError.__new__") ∧ HandSPX.refsVE bm = true
theorem clsx {nm q : Str} {N : Addr} {bs bm : List Value} {sn : List Str} {sub : List Value} {ab : Bool} {col : Option Bool} {dd : Option Addr} {k0 k1 k2 k3 k5 : Option Value} (x : K.lookup C = some (excClassObj nm q C N bs bm true sn sub ab col dd k0 k1 k2 k3 k5 "ValueError.__new__")) (h : HandSPX.refsVE bm = true) : ClsX K C :=
  ⟨nm, q, N, bs, bm, sn, sub, ab, col, dd, k0, k1, k2, k3, k5, x, h⟩
def FunX (K : PySem.W.Frag) (x qual : Str) (st : Stmt) (f : Addr) : Prop := ∃ fd, L2.Fun K x qual st f fd
theorem funx {x qual : Str} {st : Stmt} {f : Addr} {oc : Value} {od an : Option Addr} {osl : Array (Option Value)} {kV doc pm cdv ct : Value} (l : K.lookup f = some ⟨oc, od, .func (PySem.W.fnOf x qual (defArgs st) (defBody st) (defScope st) .none kV doc pm an cdv ct), osl⟩)
    (c : PySem.W.codeIn K cdv qual = true) (k : PySem.W.keepIn K (.ref f) = true) : FunX K x qual st f := ⟨_, fun_mk l c k⟩
theorem naT_ok {c : Nat} {f : Str} (h : naT c f = true) (n : clsN K C = true) : PySem.W.findIn K (.ref C) f = some none := by
  unfold clsN at n
  simp only [Bool.and_eq_true] at n
  obtain ⟨n1, n2, n3, n4, n5, n6, n7, n8, n9⟩ := n
  unfold naT at h
  simp only [Bool.or_eq_true, strEq_iff] at h
  rcases h with (((((((h | h) | h) | h) | h) | h) | h) | h) | h <;> subst h <;> apply non_ok <;> assumption
end
theorem adr_lt {cs : List Addr} {P : Addr → Prop} (h0 : 0 < cs.length) (h : ∀ c, c < cs.length → P (adrOf cs c)) (c : Nat) : P (adrOf cs c) := by
  by_cases hc : c < cs.length
  · exact h c hc
  · have e : adrOf cs c = adrOf cs 0 := by
      unfold adrOf
      rw [getR_eq, List.getElem?_eq_none (by omega)]
      cases cs with
      | nil => rfl
      | cons a l => rfl
    rw [e]
    exact h 0 h0
theorem exf_of {K : PySem.W.Frag} {cs : List Addr} (h22 : cs.length = 22) (hc : ∀ c, c < 22 → ClsX K (adrOf cs c)) (hA : bulkA K (adrOf cs) = true) (hN : bulkN K (adrOf cs) = true) (hP : bulkP K (adrOf cs) = true)
    (sp : PySem.W.specialIn K (.builtin "object.__class__") "__get__" = some (some (.builtin "getset_descriptor.__get__"))) (tk : PySem.W.takesIn K (.builtin "object.__class__") = some true) : ExF K ⟨adrOf cs, 0⟩ isT naT ncT where
  oex c h := by
    have a := (band (allN_ok hA h)).1
    unfold clsA at a
    simp only [Bool.and_eq_true] at a
    exact ⟨hc c h, fnd_ok a.1, bT_ok a.2.1, tyT_ok a.2.2.1, a.2.2.2⟩
  exc c h := by
    have a := (band (allN_ok hA h)).1
    have b := (band (band (allN_ok hA h)).2).1
    unfold clsA at a
    unfold clsB at b
    simp only [Bool.and_eq_true] at a b
    exact ⟨fnd_ok b.1, non_ok b.2.1, bT_ok a.2.1, b.2.2.1, fnd_ok b.2.2.2.1, sp, tk, bT_ok b.2.2.2.2⟩
  no c f h := adr_lt (P := fun C => PySem.W.findIn K (.ref C) f = some none) (by omega) (fun c' h' => naT_ok (c := c) h (allN_ok (f := fun c => clsN K (adrOf cs c)) (n := 22) hN (by omega))) c
  isa c w b h := by
    cases w with
    | cls d =>
      unfold isT at h
      dsimp only at h
      split at h
      · rename_i e
        rw [Bool.and_eq_true] at e
        cases h
        refine ⟨.ref (adrOf cs d), fun ρ v u r r2 => ?_, kitB_ok (allN_ok (f := fun d => kitB K (adrOf cs c) (.ref (adrOf cs d)) (Nat.beq d 0 || Nat.beq d c)) (allN_ok (f := fun c => allN (fun d => kitB K (adrOf cs c) (.ref (adrOf cs d)) (Nat.beq d 0 || Nat.beq d c)) 22) hP (PySem.W.Z.blt_iff.mp e.1)) (PySem.W.Z.blt_iff.mp e.2))⟩
        obtain rfl : v = .ref (adrOf cs d) := r
        exact r2
      · cases h
    | ty n =>
      unfold isT at h
      dsimp only at h
      split at h
      · rename_i e
        have t := (band (band (allN_ok hA (PySem.W.Z.blt_iff.mp e))).2).2
        unfold clsT at t
        simp only [Bool.and_eq_true] at t
        have key : ∀ ρ v u, RelW ⟨adrOf cs, 0⟩ ρ (.ty n) v → RelV v u → u = .type n := fun ρ v u r r2 => by
          obtain rfl : v = .ty n := r
          exact r2
        split at h
        · rename_i e; subst e; cases h; exact ⟨_, key, kitB_ok t.1⟩
        · split at h
          · rename_i e; subst e; cases h; exact ⟨_, key, kitB_ok t.2.1⟩
          · split at h
            · rename_i e; subst e; cases h; exact ⟨_, key, kitB_ok t.2.2.1⟩
            · split at h
              · rename_i e; subst e; cases h; exact ⟨_, key, kitB_ok t.2.2.2⟩
              · cases h
      · cases h
    | _ => cases h

theorem all_mk {l : PySem.W.OpenLaw} {w : World} {K : PySem.W.Frag} {h : Heap} {mg : Str → Option Value} {fa fL C0 C1 C2 C3 C4 C5 C6 C7 C8 C9 C10 C11 C12 C13 C14 C15 C16 C17 C18 C19 C20 C21 f1 f2 f3 f4 f5 f6 f7 f8 f9 f10 f11 f12 f13 f14 f15 f16 f17 f18 f19 f20 g0 g1 g2 g3 g4 g5 g6 : Addr} (X : K.In h) (G : h.Ns mainGlobals mg) (hfa : mg "law" = some (.ref fa)) (hrest : f_rest kEnd E0 S0 = true)
    (aC0 : PySem.W.nsIn K mainGlobals "SkipError" = some (some (.ref C0)))
    (aC1 : PySem.W.nsIn K mainGlobals "BadValue" = some (some (.ref C1)))
    (aC2 : PySem.W.nsIn K mainGlobals "BadName" = some (some (.ref C2)))
    (aC3 : PySem.W.nsIn K mainGlobals "BadTold" = some (some (.ref C3)))
    (aC4 : PySem.W.nsIn K mainGlobals "BadHead" = some (some (.ref C4)))
    (aC5 : PySem.W.nsIn K mainGlobals "BadFilter" = some (some (.ref C5)))
    (aC6 : PySem.W.nsIn K mainGlobals "BadRow" = some (some (.ref C6)))
    (aC7 : PySem.W.nsIn K mainGlobals "BadLots" = some (some (.ref C7)))
    (aC8 : PySem.W.nsIn K mainGlobals "BadShelf" = some (some (.ref C8)))
    (aC9 : PySem.W.nsIn K mainGlobals "BadTable" = some (some (.ref C9)))
    (aC10 : PySem.W.nsIn K mainGlobals "BadQuestion" = some (some (.ref C10)))
    (aC11 : PySem.W.nsIn K mainGlobals "BadRead" = some (some (.ref C11)))
    (aC12 : PySem.W.nsIn K mainGlobals "BadUpkeep" = some (some (.ref C12)))
    (aC13 : PySem.W.nsIn K mainGlobals "BadBook" = some (some (.ref C13)))
    (aC14 : PySem.W.nsIn K mainGlobals "BadText" = some (some (.ref C14)))
    (aC15 : PySem.W.nsIn K mainGlobals "BadLine" = some (some (.ref C15)))
    (aC16 : PySem.W.nsIn K mainGlobals "NoName" = some (some (.ref C16)))
    (aC17 : PySem.W.nsIn K mainGlobals "NoBlock" = some (some (.ref C17)))
    (aC18 : PySem.W.nsIn K mainGlobals "NoCount" = some (some (.ref C18)))
    (aC19 : PySem.W.nsIn K mainGlobals "Taken" = some (some (.ref C19)))
    (aC20 : PySem.W.nsIn K mainGlobals "TooMany" = some (some (.ref C20)))
    (aC21 : PySem.W.nsIn K mainGlobals "NoChange" = some (some (.ref C21)))
    (iC1 : PySem.W.findIn K (.ref C1) "__init__" = some (some (.ref f1)))
    (tI1 : PySem.W.typeIn K (.ref f1) = some (.type "function"))
    (F1 : FunX K "__init__" "BadValue.__init__" s_BadValue f1)
    (iC2 : PySem.W.findIn K (.ref C2) "__init__" = some (some (.ref f2)))
    (tI2 : PySem.W.typeIn K (.ref f2) = some (.type "function"))
    (F2 : FunX K "__init__" "BadName.__init__" s_BadName f2)
    (iC3 : PySem.W.findIn K (.ref C3) "__init__" = some (some (.ref f3)))
    (tI3 : PySem.W.typeIn K (.ref f3) = some (.type "function"))
    (F3 : FunX K "__init__" "BadTold.__init__" s_BadTold f3)
    (iC4 : PySem.W.findIn K (.ref C4) "__init__" = some (some (.ref f4)))
    (tI4 : PySem.W.typeIn K (.ref f4) = some (.type "function"))
    (F4 : FunX K "__init__" "BadHead.__init__" s_BadHead f4)
    (iC5 : PySem.W.findIn K (.ref C5) "__init__" = some (some (.ref f5)))
    (tI5 : PySem.W.typeIn K (.ref f5) = some (.type "function"))
    (F5 : FunX K "__init__" "BadFilter.__init__" s_BadFilter f5)
    (iC6 : PySem.W.findIn K (.ref C6) "__init__" = some (some (.ref f6)))
    (tI6 : PySem.W.typeIn K (.ref f6) = some (.type "function"))
    (F6 : FunX K "__init__" "BadRow.__init__" s_BadRow f6)
    (iC7 : PySem.W.findIn K (.ref C7) "__init__" = some (some (.ref f7)))
    (tI7 : PySem.W.typeIn K (.ref f7) = some (.type "function"))
    (F7 : FunX K "__init__" "BadLots.__init__" s_BadLots f7)
    (iC8 : PySem.W.findIn K (.ref C8) "__init__" = some (some (.ref f8)))
    (tI8 : PySem.W.typeIn K (.ref f8) = some (.type "function"))
    (F8 : FunX K "__init__" "BadShelf.__init__" s_BadShelf f8)
    (iC9 : PySem.W.findIn K (.ref C9) "__init__" = some (some (.ref f9)))
    (tI9 : PySem.W.typeIn K (.ref f9) = some (.type "function"))
    (F9 : FunX K "__init__" "BadTable.__init__" s_BadTable f9)
    (iC10 : PySem.W.findIn K (.ref C10) "__init__" = some (some (.ref f10)))
    (tI10 : PySem.W.typeIn K (.ref f10) = some (.type "function"))
    (F10 : FunX K "__init__" "BadQuestion.__init__" s_BadQuestion f10)
    (iC11 : PySem.W.findIn K (.ref C11) "__init__" = some (some (.ref f11)))
    (tI11 : PySem.W.typeIn K (.ref f11) = some (.type "function"))
    (F11 : FunX K "__init__" "BadRead.__init__" s_BadRead f11)
    (iC12 : PySem.W.findIn K (.ref C12) "__init__" = some (some (.ref f12)))
    (tI12 : PySem.W.typeIn K (.ref f12) = some (.type "function"))
    (F12 : FunX K "__init__" "BadUpkeep.__init__" s_BadUpkeep f12)
    (iC13 : PySem.W.findIn K (.ref C13) "__init__" = some (some (.ref f13)))
    (tI13 : PySem.W.typeIn K (.ref f13) = some (.type "function"))
    (F13 : FunX K "__init__" "BadBook.__init__" s_BadBook f13)
    (iC14 : PySem.W.findIn K (.ref C14) "__init__" = some (some (.ref f14)))
    (tI14 : PySem.W.typeIn K (.ref f14) = some (.type "function"))
    (F14 : FunX K "__init__" "BadText.__init__" s_BadText f14)
    (iC15 : PySem.W.findIn K (.ref C15) "__init__" = some (some (.ref f15)))
    (tI15 : PySem.W.typeIn K (.ref f15) = some (.type "function"))
    (F15 : FunX K "__init__" "BadLine.__init__" s_BadLine f15)
    (iC16 : PySem.W.findIn K (.ref C16) "__init__" = some (some (.ref f16)))
    (tI16 : PySem.W.typeIn K (.ref f16) = some (.type "function"))
    (F16 : FunX K "__init__" "NoName.__init__" s_NoName f16)
    (iC17 : PySem.W.findIn K (.ref C17) "__init__" = some (some (.ref f17)))
    (tI17 : PySem.W.typeIn K (.ref f17) = some (.type "function"))
    (F17 : FunX K "__init__" "NoBlock.__init__" s_NoBlock f17)
    (iC18 : PySem.W.findIn K (.ref C18) "__init__" = some (some (.ref f18)))
    (tI18 : PySem.W.typeIn K (.ref f18) = some (.type "function"))
    (F18 : FunX K "__init__" "NoCount.__init__" s_NoCount f18)
    (iC19 : PySem.W.findIn K (.ref C19) "__init__" = some (some (.ref f19)))
    (tI19 : PySem.W.typeIn K (.ref f19) = some (.type "function"))
    (F19 : FunX K "__init__" "Taken.__init__" s_Taken f19)
    (iC20 : PySem.W.findIn K (.ref C20) "__init__" = some (some (.ref f20)))
    (tI20 : PySem.W.typeIn K (.ref f20) = some (.type "function"))
    (F20 : FunX K "__init__" "TooMany.__init__" s_TooMany f20)
    (xC0 : ClsX K C0)
    (xC1 : ClsX K C1)
    (xC2 : ClsX K C2)
    (xC3 : ClsX K C3)
    (xC4 : ClsX K C4)
    (xC5 : ClsX K C5)
    (xC6 : ClsX K C6)
    (xC7 : ClsX K C7)
    (xC8 : ClsX K C8)
    (xC9 : ClsX K C9)
    (xC10 : ClsX K C10)
    (xC11 : ClsX K C11)
    (xC12 : ClsX K C12)
    (xC13 : ClsX K C13)
    (xC14 : ClsX K C14)
    (xC15 : ClsX K C15)
    (xC16 : ClsX K C16)
    (xC17 : ClsX K C17)
    (xC18 : ClsX K C18)
    (xC19 : ClsX K C19)
    (xC20 : ClsX K C20)
    (xC21 : ClsX K C21)
    (aG0 : PySem.W.nsIn K mainGlobals "_law_pen" = some (some (.ref g0)))
    (G0 : FunX K "_law_pen" "_law_pen" s_law_pen g0)
    (aG1 : PySem.W.nsIn K mainGlobals "_law_draw" = some (some (.ref g1)))
    (G1 : FunX K "_law_draw" "_law_draw" s_law_draw g1)
    (aG2 : PySem.W.nsIn K mainGlobals "_law_pick" = some (some (.ref g2)))
    (G2 : FunX K "_law_pick" "_law_pick" s_law_pick g2)
    (aG3 : PySem.W.nsIn K mainGlobals "_law_value" = some (some (.ref g3)))
    (G3 : FunX K "_law_value" "_law_value" s_law_value g3)
    (aG4 : PySem.W.nsIn K mainGlobals "_law_made" = some (some (.ref g4)))
    (G4 : FunX K "_law_made" "_law_made" s_law_made g4)
    (aG5 : PySem.W.nsIn K mainGlobals "_law_fields" = some (some (.ref g5)))
    (G5 : FunX K "_law_fields" "_law_fields" s_law_fields g5)
    (aG6 : PySem.W.nsIn K mainGlobals "_law_classes" = some (some (.ref g6)))
    (G6 : FunX K "_law_classes" "_law_classes" s_law_classes g6)
    (aL : PySem.W.nsIn K mainGlobals "law" = some (some (.ref fL)))
    (GL : FunX K "law" "law" s_law fL)
    (z_len : PySem.W.nsIn K mainGlobals "len" = some none)
    (z_range : PySem.W.nsIn K mainGlobals "range" = some none)
    (z_repr : PySem.W.nsIn K mainGlobals "repr" = some none)
    (z_isinstance : PySem.W.nsIn K mainGlobals "isinstance" = some none)
    (z_list : PySem.W.nsIn K mainGlobals "list" = some none)
    (z_int : PySem.W.nsIn K mainGlobals "int" = some none)
    (z_abs : PySem.W.nsIn K mainGlobals "abs" = some none)
    (z_ValueError : PySem.W.nsIn K mainGlobals "ValueError" = some none)
    (z_LookupError : PySem.W.nsIn K mainGlobals "LookupError" = some none)
    (z_TypeError : PySem.W.nsIn K mainGlobals "TypeError" = some none)
    (z_ArithmeticError : PySem.W.nsIn K mainGlobals "ArithmeticError" = some none)
    (e_SkipError : PySem.W.excIn K C0 [.type "ValueError", .type "Exception", .type "BaseException", .type "object"] "ValueError.__new__" = true)
    (k_SkipError : PySem.W.keepIn K (.ref C0) = true)
    (e_NoChange : PySem.W.excIn K C21 [.type "ValueError", .type "Exception", .type "BaseException", .type "object"] "ValueError.__new__" = true)
    (k_NoChange : PySem.W.keepIn K (.ref C21) = true)
    (sp : PySem.W.specialIn K (.builtin "object.__class__") "__get__" = some (some (.builtin "getset_descriptor.__get__")))
    (tk : PySem.W.takesIn K (.builtin "object.__class__") = some true)
    (hA : bulkA K (adrOf [C0, C1, C2, C3, C4, C5, C6, C7, C8, C9, C10, C11, C12, C13, C14, C15, C16, C17, C18, C19, C20, C21]) = true)
    (hN : bulkN K (adrOf [C0, C1, C2, C3, C4, C5, C6, C7, C8, C9, C10, C11, C12, C13, C14, C15, C16, C17, C18, C19, C20, C21]) = true)
    (hP : bulkP K (adrOf [C0, C1, C2, C3, C4, C5, C6, C7, C8, C9, C10, C11, C12, C13, C14, C15, C16, C17, C18, C19, C20, C21]) = true) :
    ∃ fd : FuncData, (∀ (s : Shared) (v : Value), BindsTo s fd ⟨[v], []⟩ [("_law_script", v)]) ∧ ∀ base : Heap, K.In base → base.Ns mainGlobals mg → FnOkG l.prog w K mg base CX0 4 fa fd ["_law_script"] (spLaw K) := by
  have e := hfa.symm.trans (PySem.W.mg_of X G aL)
  cases e
  have ex : ExF K ⟨adrOf [C0, C1, C2, C3, C4, C5, C6, C7, C8, C9, C10, C11, C12, C13, C14, C15, C16, C17, C18, C19, C20, C21], 0⟩ isT naT ncT := exf_of rfl (fun c hc => match c, hc with
    | 0, _ => xC0
    | 1, _ => xC1
    | 2, _ => xC2
    | 3, _ => xC3
    | 4, _ => xC4
    | 5, _ => xC5
    | 6, _ => xC6
    | 7, _ => xC7
    | 8, _ => xC8
    | 9, _ => xC9
    | 10, _ => xC10
    | 11, _ => xC11
    | 12, _ => xC12
    | 13, _ => xC13
    | 14, _ => xC14
    | 15, _ => xC15
    | 16, _ => xC16
    | 17, _ => xC17
    | 18, _ => xC18
    | 19, _ => xC19
    | 20, _ => xC20
    | 21, _ => xC21
    | n + 22, hc => absurd hc (by omega)) hA hN hP sp tk
  have T : Txt K mg (adrOf [C0, C1, C2, C3, C4, C5, C6, C7, C8, C9, C10, C11, C12, C13, C14, C15, C16, C17, C18, C19, C20, C21]) := {
    m_SkipError := PySem.W.mg_of X G aC0
    m_BadValue := PySem.W.mg_of X G aC1
    m_BadName := PySem.W.mg_of X G aC2
    m_BadTold := PySem.W.mg_of X G aC3
    m_BadHead := PySem.W.mg_of X G aC4
    m_BadFilter := PySem.W.mg_of X G aC5
    m_BadRow := PySem.W.mg_of X G aC6
    m_BadLots := PySem.W.mg_of X G aC7
    m_BadShelf := PySem.W.mg_of X G aC8
    m_BadTable := PySem.W.mg_of X G aC9
    m_BadQuestion := PySem.W.mg_of X G aC10
    m_BadRead := PySem.W.mg_of X G aC11
    m_BadUpkeep := PySem.W.mg_of X G aC12
    m_BadBook := PySem.W.mg_of X G aC13
    m_BadText := PySem.W.mg_of X G aC14
    m_BadLine := PySem.W.mg_of X G aC15
    m_NoName := PySem.W.mg_of X G aC16
    m_NoBlock := PySem.W.mg_of X G aC17
    m_NoCount := PySem.W.mg_of X G aC18
    m_Taken := PySem.W.mg_of X G aC19
    m_TooMany := PySem.W.mg_of X G aC20
    m_NoChange := PySem.W.mg_of X G aC21
    x_SkipError := e_SkipError
    k_SkipError := k_SkipError
    x_NoChange := e_NoChange
    k_NoChange := k_NoChange
    z_len := PySem.W.mg_none_of X G z_len
    z_range := PySem.W.mg_none_of X G z_range
    z_repr := PySem.W.mg_none_of X G z_repr
    z_isinstance := PySem.W.mg_none_of X G z_isinstance
    z_list := PySem.W.mg_none_of X G z_list
    z_int := PySem.W.mg_none_of X G z_int
    z_abs := PySem.W.mg_none_of X G z_abs
    z_ValueError := PySem.W.mg_none_of X G z_ValueError
    z_LookupError := PySem.W.mg_none_of X G z_LookupError
    z_TypeError := PySem.W.mg_none_of X G z_TypeError
    z_ArithmeticError := PySem.W.mg_none_of X G z_ArithmeticError }
  obtain ⟨d1, F1⟩ := F1
  obtain ⟨d2, F2⟩ := F2
  obtain ⟨d3, F3⟩ := F3
  obtain ⟨d4, F4⟩ := F4
  obtain ⟨d5, F5⟩ := F5
  obtain ⟨d6, F6⟩ := F6
  obtain ⟨d7, F7⟩ := F7
  obtain ⟨d8, F8⟩ := F8
  obtain ⟨d9, F9⟩ := F9
  obtain ⟨d10, F10⟩ := F10
  obtain ⟨d11, F11⟩ := F11
  obtain ⟨d12, F12⟩ := F12
  obtain ⟨d13, F13⟩ := F13
  obtain ⟨d14, F14⟩ := F14
  obtain ⟨d15, F15⟩ := F15
  obtain ⟨d16, F16⟩ := F16
  obtain ⟨d17, F17⟩ := F17
  obtain ⟨d18, F18⟩ := F18
  obtain ⟨d19, F19⟩ := F19
  obtain ⟨d20, F20⟩ := F20
  obtain ⟨dg0, G0⟩ := G0
  obtain ⟨dg1, G1⟩ := G1
  obtain ⟨dg2, G2⟩ := G2
  obtain ⟨dg3, G3⟩ := G3
  obtain ⟨dg4, G4⟩ := G4
  obtain ⟨dg5, G5⟩ := G5
  obtain ⟨dg6, G6⟩ := G6
  obtain ⟨dL, GL⟩ := GL
  have B0 : DefB K mg "_law_pen" g0 dg0 ["_law_script"] := ⟨PySem.W.mg_of X G aG0, G0.kp, G0.binds fun _ _ _ _ _ _ us hl => match us, hl with | [_], _ => rfl⟩
  have B1 : DefB K mg "_law_draw" g1 dg1 ["_law_pen_here", "_law_many"] := ⟨PySem.W.mg_of X G aG1, G1.kp, G1.binds fun _ _ _ _ _ _ us hl => match us, hl with | [_, _], _ => rfl⟩
  have B2 : DefB K mg "_law_pick" g2 dg2 ["_law_pen_here", "_law_some"] := ⟨PySem.W.mg_of X G aG2, G2.kp, G2.binds fun _ _ _ _ _ _ us hl => match us, hl with | [_, _], _ => rfl⟩
  have B3 : DefB K mg "_law_value" g3 dg3 ["_law_pen_here"] := ⟨PySem.W.mg_of X G aG3, G3.kp, G3.binds fun _ _ _ _ _ _ us hl => match us, hl with | [_], _ => rfl⟩
  have B4 : DefB K mg "_law_made" g4 dg4 ["_law_one", "_law_two"] := ⟨PySem.W.mg_of X G aG4, G4.kp, G4.binds fun _ _ _ _ _ _ us hl => match us, hl with | [_, _], _ => rfl⟩
  have B5 : DefB K mg "_law_fields" g5 dg5 ["_law_error", "_law_names"] := ⟨PySem.W.mg_of X G aG5, G5.kp, G5.binds fun _ _ _ _ _ _ us hl => match us, hl with | [_, _], _ => rfl⟩
  have B6 : DefB K mg "_law_classes" g6 dg6 ["_law_error"] := ⟨PySem.W.mg_of X G aG6, G6.kp, G6.binds fun _ _ _ _ _ _ us hl => match us, hl with | [_], _ => rfl⟩
  have bL : Binds K dL ["_law_script"] [] := GL.binds fun _ _ _ _ _ _ us hl => match us, hl with | [_], _ => rfl
  obtain ⟨oc, od, kV, doc, pm, an, cdv, ct, osl, rfl, lk, hcd⟩ := GL.ex
  refine ⟨PySem.W.fnOf "law" "law" (defArgs s_law) (defBody s_law) (defScope s_law) .none kV doc pm an cdv ct, fun s v => .of_eq rfl, fun base hb hn => ?_⟩
  have H0 := ok_law_pen (P := l.prog) (w := w) (base := base) T G0
  have H1 := ok_law_draw (P := l.prog) (w := w) (base := base) T G1
  have H2 := ok_law_pick (P := l.prog) (w := w) (base := base) (adr := adrOf [C0, C1, C2, C3, C4, C5, C6, C7, C8, C9, C10, C11, C12, C13, C14, C15, C16, C17, C18, C19, C20, C21]) T G2 H1 B1
  have H3 := ok_law_value (P := l.prog) (w := w) (base := base) ex T H2 B2 G3
  have H4 := ok_law_made (P := l.prog) (w := w) (base := base) ex T (ini_BadValue ex T F1 iC1 tI1) (ini_BadName ex T F2 iC2 tI2) (ini_BadTold ex T F3 iC3 tI3) (ini_BadHead ex T F4 iC4 tI4) (ini_BadFilter ex T F5 iC5 tI5) (ini_BadRow ex T F6 iC6 tI6) (ini_BadLots ex T F7 iC7 tI7) (ini_BadShelf ex T F8 iC8 tI8) (ini_BadTable ex T F9 iC9 tI9) (ini_BadQuestion ex T F10 iC10 tI10) (ini_BadRead ex T F11 iC11 tI11) (ini_BadUpkeep ex T F12 iC12 tI12) (ini_BadBook ex T F13 iC13 tI13) (ini_BadText ex T F14 iC14 tI14) (ini_BadLine ex T F15 iC15 tI15) (ini_NoName ex T F16 iC16 tI16) (ini_NoBlock ex T F17 iC17 tI17) (ini_NoCount ex T F18 iC18 tI18) (ini_Taken ex T F19 iC19 tI19) (ini_TooMany ex T F20 iC20 tI20) G4
  have H5 := ok_law_fields (P := l.prog) (w := w) (base := base) ex T G5
  have H6 := ok_law_classes (P := l.prog) (w := w) (base := base) ex T G6
  exact ok_law ex T H0 B0 H3 B3 H4 B4 H5 B5 H6 B6 GL hrest
theorem walk0 {l : PySem.W.OpenLaw} {q : Program} {loose : List Str} {XP : (Str → Option Value) → Heap → Prop} {YP : World → Heap → Prop} {d : DefRec} {K : Params → PySem.W.Frag} (hn : l.most = some 63) (hdf : d.params.defaults = [])
    (hY : ∀ (w : World) (h : Heap), YP w h → (K w.params).In h)
    (F : ∀ (w : World) (mg : Str → Option Value) (fa : Addr) (h : Heap), (K w.params).In h → h.Ns mainGlobals mg → mg d.name = some (.ref fa) →
      ∃ fd : FuncData, (∀ (s : Shared) (u : Value), BindsTo s fd ⟨[u], []⟩ [("_law_script", u)]) ∧ ∀ base : Heap, (K w.params).In base → base.Ns mainGlobals mg → FnOkG l.prog w (K w.params) mg base CX0 4 fa fd ["_law_script"] (spLaw (K w.params))) :
    PySem.W.WalkO q loose XP YP l.row.toRowW d [] (fun f vs => PySem.call f vs) :=
  L2.walk_ofG (n := 63) (k := 4) (x := "_law_script") (CX := fun _ => CX0) (sp := fun w => spLaw (K w.params)) hn (by decide) hdf ⟨rfl, by decide, by decide⟩ hY F (fun _ _ a ns hl _ hS => ⟨a, ns, rfl, hS, hl, fun _ => rfl⟩) fun _ _ _ _ _ z => z
end K1

set_option Elab.async false
set_option maxRecDepth 100000
open PySem PySem.W PyProof.Rows in
set_option maxRecDepth 100000 in
set_option maxHeartbeats 0 in
theorem PySem.Challenge.cw_headskip_k01_errors_and_their_fields_holds : PySem.Challenge.rw_headskip_k01_errors_and_their_fields.Holds := by
  w_on; o_law; k_head; (case hw => w_witness2)
  k_fill
  refine K1.walk0 (l := PySem.Challenge.rw_headskip_k01_errors_and_their_fields) rfl rfl (fun w h Y => PySem.W.kIn_of Y) ?F
  case F =>
    intro w mg fa h KX G hmg
    refine' K1.all_mk KX G hmg K1.rest_true ?aC0 ?aC1 ?aC2 ?aC3 ?aC4 ?aC5 ?aC6 ?aC7 ?aC8 ?aC9 ?aC10 ?aC11 ?aC12 ?aC13 ?aC14 ?aC15 ?aC16 ?aC17 ?aC18 ?aC19 ?aC20 ?aC21 ?iC1 ?tI1 ?F1 ?iC2 ?tI2 ?F2 ?iC3 ?tI3 ?F3 ?iC4 ?tI4 ?F4 ?iC5 ?tI5 ?F5 ?iC6 ?tI6 ?F6 ?iC7 ?tI7 ?F7 ?iC8 ?tI8 ?F8 ?iC9 ?tI9 ?F9 ?iC10 ?tI10 ?F10 ?iC11 ?tI11 ?F11 ?iC12 ?tI12 ?F12 ?iC13 ?tI13 ?F13 ?iC14 ?tI14 ?F14 ?iC15 ?tI15 ?F15 ?iC16 ?tI16 ?F16 ?iC17 ?tI17 ?F17 ?iC18 ?tI18 ?F18 ?iC19 ?tI19 ?F19 ?iC20 ?tI20 ?F20 ?xC0 ?xC1 ?xC2 ?xC3 ?xC4 ?xC5 ?xC6 ?xC7 ?xC8 ?xC9 ?xC10 ?xC11 ?xC12 ?xC13 ?xC14 ?xC15 ?xC16 ?xC17 ?xC18 ?xC19 ?xC20 ?xC21 ?aG0 ?G0 ?aG1 ?G1 ?aG2 ?G2 ?aG3 ?G3 ?aG4 ?G4 ?aG5 ?G5 ?aG6 ?G6 ?aL ?GL ?z_len ?z_range ?z_repr ?z_isinstance ?z_list ?z_int ?z_abs ?z_ValueError ?z_LookupError ?z_TypeError ?z_ArithmeticError ?e_SkipError ?k_SkipError ?e_NoChange ?k_NoChange ?sp ?tk ?hA ?hN ?hP
    (case aC0 => k_is)
    (case aC1 => k_is)
    (case aC2 => k_is)
    (case aC3 => k_is)
    (case aC4 => k_is)
    (case aC5 => k_is)
    (case aC6 => k_is)
    (case aC7 => k_is)
    (case aC8 => k_is)
    (case aC9 => k_is)
    (case aC10 => k_is)
    (case aC11 => k_is)
    (case aC12 => k_is)
    (case aC13 => k_is)
    (case aC14 => k_is)
    (case aC15 => k_is)
    (case aC16 => k_is)
    (case aC17 => k_is)
    (case aC18 => k_is)
    (case aC19 => k_is)
    (case aC20 => k_is)
    (case aC21 => k_is)
    (case iC1 => k_is)
    (case tI1 => k_is)
    (case F1 => (refine' K1.funx ?l ?c ?k; (case l => k_is); (case c => k_is); (case k => k_is)))
    (case iC2 => k_is)
    (case tI2 => k_is)
    (case F2 => (refine' K1.funx ?l ?c ?k; (case l => k_is); (case c => k_is); (case k => k_is)))
    (case iC3 => k_is)
    (case tI3 => k_is)
    (case F3 => (refine' K1.funx ?l ?c ?k; (case l => k_is); (case c => k_is); (case k => k_is)))
    (case iC4 => k_is)
    (case tI4 => k_is)
    (case F4 => (refine' K1.funx ?l ?c ?k; (case l => k_is); (case c => k_is); (case k => k_is)))
    (case iC5 => k_is)
    (case tI5 => k_is)
    (case F5 => (refine' K1.funx ?l ?c ?k; (case l => k_is); (case c => k_is); (case k => k_is)))
    (case iC6 => k_is)
    (case tI6 => k_is)
    (case F6 => (refine' K1.funx ?l ?c ?k; (case l => k_is); (case c => k_is); (case k => k_is)))
    (case iC7 => k_is)
    (case tI7 => k_is)
    (case F7 => (refine' K1.funx ?l ?c ?k; (case l => k_is); (case c => k_is); (case k => k_is)))
    (case iC8 => k_is)
    (case tI8 => k_is)
    (case F8 => (refine' K1.funx ?l ?c ?k; (case l => k_is); (case c => k_is); (case k => k_is)))
    (case iC9 => k_is)
    (case tI9 => k_is)
    (case F9 => (refine' K1.funx ?l ?c ?k; (case l => k_is); (case c => k_is); (case k => k_is)))
    (case iC10 => k_is)
    (case tI10 => k_is)
    (case F10 => (refine' K1.funx ?l ?c ?k; (case l => k_is); (case c => k_is); (case k => k_is)))
    (case iC11 => k_is)
    (case tI11 => k_is)
    (case F11 => (refine' K1.funx ?l ?c ?k; (case l => k_is); (case c => k_is); (case k => k_is)))
    (case iC12 => k_is)
    (case tI12 => k_is)
    (case F12 => (refine' K1.funx ?l ?c ?k; (case l => k_is); (case c => k_is); (case k => k_is)))
    (case iC13 => k_is)
    (case tI13 => k_is)
    (case F13 => (refine' K1.funx ?l ?c ?k; (case l => k_is); (case c => k_is); (case k => k_is)))
    (case iC14 => k_is)
    (case tI14 => k_is)
    (case F14 => (refine' K1.funx ?l ?c ?k; (case l => k_is); (case c => k_is); (case k => k_is)))
    (case iC15 => k_is)
    (case tI15 => k_is)
    (case F15 => (refine' K1.funx ?l ?c ?k; (case l => k_is); (case c => k_is); (case k => k_is)))
    (case iC16 => k_is)
    (case tI16 => k_is)
    (case F16 => (refine' K1.funx ?l ?c ?k; (case l => k_is); (case c => k_is); (case k => k_is)))
    (case iC17 => k_is)
    (case tI17 => k_is)
    (case F17 => (refine' K1.funx ?l ?c ?k; (case l => k_is); (case c => k_is); (case k => k_is)))
    (case iC18 => k_is)
    (case tI18 => k_is)
    (case F18 => (refine' K1.funx ?l ?c ?k; (case l => k_is); (case c => k_is); (case k => k_is)))
    (case iC19 => k_is)
    (case tI19 => k_is)
    (case F19 => (refine' K1.funx ?l ?c ?k; (case l => k_is); (case c => k_is); (case k => k_is)))
    (case iC20 => k_is)
    (case tI20 => k_is)
    (case F20 => (refine' K1.funx ?l ?c ?k; (case l => k_is); (case c => k_is); (case k => k_is)))
    (case xC0 => (refine' K1.clsx ?x ?h; (case x => k_is); (case h => decide +kernel)))
    (case xC1 => (refine' K1.clsx ?x ?h; (case x => k_is); (case h => decide +kernel)))
    (case xC2 => (refine' K1.clsx ?x ?h; (case x => k_is); (case h => decide +kernel)))
    (case xC3 => (refine' K1.clsx ?x ?h; (case x => k_is); (case h => decide +kernel)))
    (case xC4 => (refine' K1.clsx ?x ?h; (case x => k_is); (case h => decide +kernel)))
    (case xC5 => (refine' K1.clsx ?x ?h; (case x => k_is); (case h => decide +kernel)))
    (case xC6 => (refine' K1.clsx ?x ?h; (case x => k_is); (case h => decide +kernel)))
    (case xC7 => (refine' K1.clsx ?x ?h; (case x => k_is); (case h => decide +kernel)))
    (case xC8 => (refine' K1.clsx ?x ?h; (case x => k_is); (case h => decide +kernel)))
    (case xC9 => (refine' K1.clsx ?x ?h; (case x => k_is); (case h => decide +kernel)))
    (case xC10 => (refine' K1.clsx ?x ?h; (case x => k_is); (case h => decide +kernel)))
    (case xC11 => (refine' K1.clsx ?x ?h; (case x => k_is); (case h => decide +kernel)))
    (case xC12 => (refine' K1.clsx ?x ?h; (case x => k_is); (case h => decide +kernel)))
    (case xC13 => (refine' K1.clsx ?x ?h; (case x => k_is); (case h => decide +kernel)))
    (case xC14 => (refine' K1.clsx ?x ?h; (case x => k_is); (case h => decide +kernel)))
    (case xC15 => (refine' K1.clsx ?x ?h; (case x => k_is); (case h => decide +kernel)))
    (case xC16 => (refine' K1.clsx ?x ?h; (case x => k_is); (case h => decide +kernel)))
    (case xC17 => (refine' K1.clsx ?x ?h; (case x => k_is); (case h => decide +kernel)))
    (case xC18 => (refine' K1.clsx ?x ?h; (case x => k_is); (case h => decide +kernel)))
    (case xC19 => (refine' K1.clsx ?x ?h; (case x => k_is); (case h => decide +kernel)))
    (case xC20 => (refine' K1.clsx ?x ?h; (case x => k_is); (case h => decide +kernel)))
    (case xC21 => (refine' K1.clsx ?x ?h; (case x => k_is); (case h => decide +kernel)))
    (case aG0 => k_is)
    (case G0 => (refine' K1.funx ?l ?c ?k; (case l => k_is); (case c => k_is); (case k => k_is)))
    (case aG1 => k_is)
    (case G1 => (refine' K1.funx ?l ?c ?k; (case l => k_is); (case c => k_is); (case k => k_is)))
    (case aG2 => k_is)
    (case G2 => (refine' K1.funx ?l ?c ?k; (case l => k_is); (case c => k_is); (case k => k_is)))
    (case aG3 => k_is)
    (case G3 => (refine' K1.funx ?l ?c ?k; (case l => k_is); (case c => k_is); (case k => k_is)))
    (case aG4 => k_is)
    (case G4 => (refine' K1.funx ?l ?c ?k; (case l => k_is); (case c => k_is); (case k => k_is)))
    (case aG5 => k_is)
    (case G5 => (refine' K1.funx ?l ?c ?k; (case l => k_is); (case c => k_is); (case k => k_is)))
    (case aG6 => k_is)
    (case G6 => (refine' K1.funx ?l ?c ?k; (case l => k_is); (case c => k_is); (case k => k_is)))
    (case aL => k_is)
    (case GL => (refine' K1.funx ?l ?c ?k; (case l => k_is); (case c => k_is); (case k => k_is)))
    (case z_len => k_is)
    (case z_range => k_is)
    (case z_repr => k_is)
    (case z_isinstance => k_is)
    (case z_list => k_is)
    (case z_int => k_is)
    (case z_abs => k_is)
    (case z_ValueError => k_is)
    (case z_LookupError => k_is)
    (case z_TypeError => k_is)
    (case z_ArithmeticError => k_is)
    (case e_SkipError => k_exc)
    (case k_SkipError => k_is)
    (case e_NoChange => k_exc)
    (case k_NoChange => k_is)
    (case sp => k_is)
    (case tk => k_is)
    (case hA => exact Eq.refl true)
    (case hN => exact Eq.refl true)
    (case hP => exact Eq.refl true)
