import PyProof.Rows.All
import Wide.All
import OpenK.AllK
import Wide.FinOn
import HandS.ForMost
import HandS.Exc
import HandS.ExcOwn
import HandS.ExcInit
import HandS.ExcValue
import HandS.WordsExc
import HandS.IsInst
import HandS.Defaults
import KE.KExcInit
import KE.KExcIs
import PyProof.ReprRoads
import Wide.Loose
import HandS.Wide
import PyProof.StrLawsRepr
import PySem.Challenge.RW_halverules_k01_errors_and_limits
set_option Elab.async false
set_option linter.all false
set_option maxRecDepth 100000
set_option maxHeartbeats 4000000
namespace EK
open PySem PySem.W L2 PySem.HandSPX
open Builtin Builtin.ObjectAttr

section
variable {prog : Program} {w : World} {A : Around} {E : Value → Shared → Prop} {R : Result → Shared → Prop} {hp : Heap} {g : Array GenState} {d : Drawn} {t : Nat} {os : OsState} {B : String} {bmB : List Value}
theorem exc_osaG {K : W.Frag} {name : Str} {tk : Tok} {v : Value} {x C : Addr} {fv : Array Value} {cd : ClassData} (SF : StoreFacts B bmB "object.__setattr__" "object")
    (X : K.In hp) (hx : hp.get? x = some { cls := .ref C, data := .fields fv }) (hcd : W.clsIn K C = some cd) (ho : W.excOver K C bmB = true) (hh : cd.hasDict = true) (ha : W.takerIn K C name = some none)
    (hq : ∀ h' tk' dx, (∀ b o, b ≠ x → hp.get? b = some o → h'.get? b = some o) → hp.objs.size ≤ dx → dx ≠ x → h'.get? x = some { cls := .ref C, dict := some dx, data := .fields fv } →
      h'.Ns1 dx (fun y => if y = name then some v else none) → R (.ok (.ret .none)) ⟨h', g, d, tk', os⟩) :
    codeAny (model prog w) A (.call (.builtin "object.__setattr__") ⟨[.ref x, .str name tk, v], []⟩) R ⟨hp, g, d, t, os⟩ := by
  have I : W.InstAt hp x { cls := .ref C, data := .fields fv } C none := ⟨hx, rfl, rfl, trivial⟩
  have hxs : x ≠ hp.objs.size := Nat.ne_of_lt (Heap.lt_size hx)
  have hcls : W.Looks (model prog w) hp (classData C) cd := W.looks_clsIn X hcd
  refine W.osa_openX (s := ⟨hp, g, d, t, os⟩) SF X I ho ha fun b => ?_
  obtain ⟨nm, bs, mro, ns, qn, hd, sn, sb, ab, col, del⟩ := cd
  dsimp only at hh
  subst hh
  show wpAny _ _ (storeInOwnDict (.ref x) (.ref C) (.str name tk) name v b) _ _ _
  unfold storeInOwnDict ownDictForStores
  repeat (first | with_reducible refine store_in_new ?_ ?_ | with_reducible refine wpAny_loadPart_at hx ?_ | with_reducible refine hcls.at ?_ | wp_step)
  · exact ⟨_, #[], _, (Heap.get?_update_ne _ _ _ _ hxs.symm).trans (Heap.get?_push_at rfl rfl), rfl, fun e he => absurd he (by simp), fun _ => rfl⟩
  · intro h' tk' hn' hs
    have hx₁ : (hp.push { cls := .type "dict", data := .dict #[] }).get? x = some { cls := .ref C, data := .fields fv } := Heap.get?_push_of_some _ hx
    refine hq h' tk' hp.objs.size (fun b o hb ho => ?_) (Nat.le_refl _) hxs.symm ?_ hn'
    · exact (hs.2 b (Nat.ne_of_lt (Heap.lt_size ho))).trans ((Heap.get?_update_ne _ _ _ _ hb).trans (Heap.get?_push_of_some _ ho))
    · exact (hs.2 x hxs).trans (Heap.get?_update_self _ hx₁ rfl)
end

section
variable {M : Model} {A : Around} {E : Value → Shared → Prop} {h : Heap} {g : Array GenState} {d : Drawn} {t : Nat} {os : OsState}
variable {nm q : Str} {C N : Addr} {bs bm bmB : List Value} {hdct : Bool} {sn : List Str} {sub : List Value} {ab : Bool} {col : Option Bool} {dd : Option Addr} {k0 k1 k2 k3 k5 : Option Value} {B newId initId : String}

theorem check_new_ownK (F : ExcBaseFacts B newId initId bmB) (hT : ∀ X : String, bm.contains (.type X) = bmB.contains (.type X)) {kn : Str} {kv : Value} {Q : Unit → Shared → Prop}
    (hC : h.get? C = some (excClassObj nm q C N bs bm hdct sn sub ab col dd k0 k1 k2 k3 k5 newId)) (hq : Q () ⟨h, g, d, t, os⟩) : wpAny M A (checkBuiltinCall newId ⟨[.ref C], [(kn, kv)]⟩) Q E ⟨h, g, d, t, os⟩ := by
  have hcont : (Value.ref C :: bm).contains (.type B) = true := by rw [List.contains_cons, hT, F.hasB, Bool.or_true]
  have hstar := F.noStar
  simp only [checkBuiltinCall, F.newKind, F.newSplit, F.newRow]
  repeat (first | refine wpAny_loadPart_at hC ?_ | (refine wpAny_isSubtype_exc hC ?_; rw [hcont]) | refine wpAny_staticBase_exc hC ?_ | refine wpAny_madeBy_exc hC ?_ | simp only [bne_self_eq_false, Bool.false_eq_true, if_false] | wp_step)
  exact hq
end

section
variable {prog : Program} {w : World} {A : Around} {E : Value → Shared → Prop} {R : Result → Shared → Prop} {h : Heap} {g : Array GenState} {d : Drawn} {t : Nat} {os : OsState}
variable {nm q : Str} {C N : Addr} {bs bm bmB : List Value} {hdct : Bool} {sn : List Str} {sub : List Value} {ab : Bool} {col : Option Bool} {dd : Option Addr} {k0 k1 k2 k3 k5 : Option Value} {B newId initId : String}

theorem new_ownK (F : ExcBaseFacts B newId initId bmB) (hT : ∀ X : String, bm.contains (.type X) = bmB.contains (.type X)) {kn : Str} {kv : Value}
    (hC : h.get? C = some (excClassObj nm q C N bs bm hdct sn sub ab col dd k0 k1 k2 k3 k5 newId))
    (hq : R (.ok (.ret (.ref (h.objs.size + 1)))) ⟨(h.push { cls := .type "tuple", data := .seq ([] : List Value).toArray }).push
      { cls := .ref C, data := .fields #[.ref h.objs.size, .none, .none, .none, .bool false, .none] }, g, d, t, os⟩) :
    codeAny (model prog w) A (.builtin newId ⟨[.ref C], [(kn, kv)]⟩) R ⟨h, g, d, t, os⟩ := by
  have hends := F.ends
  have hrest : ([] : List Value).length ≤ sizeLine := Nat.zero_le _
  have hcB : (Value.ref C :: bm).contains (.type B) = true := by rw [List.contains_cons, hT, F.hasB, Bool.or_true]
  have hcA : (Value.ref C :: bm).contains (.type "AttributeError") = false := by rw [List.contains_cons, hT, F.noAttr]; rfl
  have hcN : (Value.ref C :: bm).contains (.type "NameError") = false := by rw [List.contains_cons, hT, F.noName]; rfl
  refine codeAny_builtinAt F.entry ?_
  unfold Builtin.«BaseException.__new__»
  refine wpAt_bind ?_
  show wpAt _ _ _ (stack >>= _) _ _ _
  refine wpAt_bind (wpAt_stack fun p below => wpAt_of_wpAny ?_)
  wp_walk
  refine wpAt_of_wpAny ?_
  rw [F.owner]
  repeat (first | with_reducible refine wpAny_madeHere_exc F.canon hC ?_ | with_reducible refine wpAny_loadPart_at hC ?_ | (with_reducible refine wpAny_isSubtype_exc hC ?_; first | rw [hcB] | rw [hcA] | rw [hcN]) | wp_step)
  show R _ _
  rw [Heap.size_push]
  exact hq

theorem type_call_ownK (F : ExcBaseFacts B newId initId bmB) (hT : ∀ X : String, bm.contains (.type X) = bmB.contains (.type X)) {kn : Str} {kv : Value} {fI : Addr} {Q : Fin → Shared → Prop}
    (hC : h.get? C = some (excClassObj nm q C N bs bm hdct sn sub ab col dd k0 k1 k2 k3 k5 newId))
    (hi : W.Looks (model prog w) h (typeLookup (.ref C) "__init__") (some (.ref fI))) (hb : ∀ self, W.Looks (model prog w) h (bindSpecial (.ref fI) self) (.ref fI, [self]))
    (hq : codeAny (model prog w) A (.call (.ref fI) ⟨[.ref (h.objs.size + 1)], [(kn, kv)]⟩)
      (fun r s' => match r with | .ok (.ret v) => v = .none ∧ Q (.done (.ret (.ref (h.objs.size + 1)))) s' | .ok _ => False | .error e => E e s')
      ⟨(h.push (W.kdv_tup [])).push (excO C h.objs.size), g, d, t, os⟩) :
    wpAny (model prog w) A (Builtin.«type.__call__» ⟨[.ref C], [(kn, kv)]⟩) Q E ⟨h, g, d, t, os⟩ := by
  repeat (first | with_reducible refine wpAny_loadPart_at hC ?_ | with_reducible refine wpAny_madeBy_exc hC ?_ | wp_step)
  refine codeAny_call_builtin_code (Code.quiet_builtin _ F.quiet) (check_new_ownK F hT hC ?_)
  refine new_ownK F hT hC ?_
  show wpAny _ _ _ _ _ _
  have k : ∀ b o, h.get? b = some o → ((h.push (W.kdv_tup [])).push (excO C h.objs.size)).get? b = some o := fun b o e => Heap.get?_push_of_some _ (Heap.get?_push_of_some _ e)
  have hC₁ := k _ _ hC
  have hget : ((h.push (W.kdv_tup [])).push (excO C h.objs.size)).get? (h.objs.size + 1) = some (excO C h.objs.size) := by heap_get
  have hcC : (Value.ref C :: bm).contains (.ref C) = true := by simp
  have i1 := hi.keeps k
  have b1 := (hb (.ref (h.objs.size + 1))).keeps k
  unfold isInstance
  repeat (first | with_reducible refine wpAny_loadPart_at hget ?_ | (with_reducible refine wpAny_isSubtype_exc hC₁ ?_; rw [hcC]) | wp_step)
  show wpAny _ _ (typeLookup (.ref C) _) _ _ _
  refine i1.at ?_
  refine wpAny_holding (wpAny_bind (b1.at ?_))
  refine wpAny_bind (wpAny_call (codeAny_mono hq fun r s' z => ?_))
  rcases r with e | (v | _ | _ | _) <;> first | exact z | exact z.elim | skip
  obtain ⟨rfl, z⟩ := z
  first
    | exact wpAny_pure (wpAny_pure z)
    | (wp_walk; exact z)

theorem call_ownK (F : ExcBaseFacts B newId initId bmB) (hT : ∀ X : String, bm.contains (.type X) = bmB.contains (.type X)) {kn : Str} {kv : Value} {fI : Addr}
    (hC : h.get? C = some (excClassObj nm q C N bs bm hdct sn sub ab col dd k0 k1 k2 k3 k5 newId))
    (hi : W.Looks (model prog w) h (typeLookup (.ref C) "__init__") (some (.ref fI))) (hb : ∀ self, W.Looks (model prog w) h (bindSpecial (.ref fI) self) (.ref fI, [self]))
    (hq : codeAny (model prog w) (A.under (.builtin "type.__call__" ⟨[.ref C], [(kn, kv)]⟩)) (.call (.ref fI) ⟨[.ref (h.objs.size + 1)], [(kn, kv)]⟩) (W.InitBack (h.objs.size + 1) R)
      ⟨(h.push (W.kdv_tup [])).push (excO C h.objs.size), g, d, t, os⟩) :
    codeAny (model prog w) A (.call (.ref C) ⟨[], [(kn, kv)]⟩) R ⟨h, g, d, t, os⟩ := by
  have f1 := tc_lookup
  have f2 := tc_bind (.ref C)
  have hTy : (⟨h, g, d, t, os⟩ : Shared).TypeIs (.ref C) "type" := ⟨_, hC, rfl⟩
  refine codeAny_of_tree ?_
  show wpAny _ _ (callAny (.ref C) _) _ _ _
  repeat (any_goals (first | assumption | with_reducible refine wpAny_loadPart_at hC ?_ | wp_step))
  refine ⟨rfl, ?_⟩
  refine codeAny_call_builtin_at (Code.quiet_builtin _ (by decide +kernel)) entry_typeCall (wpAny_check_type_call_sub hC (type_call_ownK F hT hC hi hb ?_))
  refine codeAny_mono hq fun r s' z => ?_
  rcases r with e | (v | _ | _ | _) <;> exact z
end
end EK

namespace L2.EK
open PySem PySem.Spec PyProof.Rows

/-- an exception object at a: its class, its own dict -/
def XO (C : Addr) (d : Option Addr) (a : Addr) : HO := .ext fun h => ∃ vs : Array Value, h.get? a = some ({ cls := .ref C, dict := d, data := .fields vs } : Obj)
theorem xo_ok {P : Program} {w : World} {H : Hp} {h : Heap} {a C : Addr} {d : Option Addr} {vs : Array Value} (e : h.get? a = some ({ cls := .ref C, dict := d, data := .fields vs } : Obj)) : ObjOk P w H h a (XO C d a) :=
  ⟨⟨vs, e⟩, ⟨_, e⟩, fun _ _ ⟨v, q⟩ k => ⟨v, k _ q⟩⟩
theorem xo_at {P : Program} {w : World} {H : Hp} {h : Heap} {a C : Addr} {d : Option Addr} (hok : HOk P w H h) (e : H a = some (XO C d a)) : ∃ vs : Array Value, h.get? a = some ({ cls := .ref C, dict := d, data := .fields vs } : Obj) := by
  have x : ObjOk P w H h a (.ext fun h => ∃ vs : Array Value, h.get? a = some ({ cls := .ref C, dict := d, data := .fields vs } : Obj)) := hok a _ e
  exact x.1

/-- what the written part says of an own exception class over the built-in B -/
structure EC (K : PySem.W.Frag) (C : Addr) (bmB : List Value) (newId : String) : Prop where
  ini : PySem.W.excInitIn K C bmB newId = true
  sa : PySem.W.findIn K (.ref C) "__setattr__" = some (some (.builtin "object.__setattr__"))
  ov : PySem.W.excOver K C bmB = true
  hd : PySem.W.hasDictIn K C = true
  kC : PySem.W.keepIn K (.ref C) = true

section
variable {X : Cx} {pins : List (Addr × Obj)} {σ : St} {H : Hp} {s : Shared} {a C dx : Addr} {f : Str} {y : V} {u : Value} {fs : List (Str × V)} {Q : Unit → Shared → Prop} {E : Value → Shared → Prop} {A : Around} {B newId initId : String} {bmB : List Value}
/-- self.f = y, the first one -/
theorem ost_newG (SF : StoreFacts B bmB "object.__setattr__" "object") (T : EC X.K C bmB newId) (I : Inv X pins σ H s) (e : H a = some (exo a C none)) (hno : PySem.W.takerIn X.K C f = some none) (ry : RelV y u)
    (h : ∀ dx s', H dx = none → dx ≠ a → Inv X pins σ (upd (upd H dx (exd dx [(f, y)])) a (exo a C (some dx))) s' → Q () s') : wpAny (model X.prog X.w) A (setAttr (.ref a) f u) Q E s := by
  obtain ⟨cd, hcl, hdd⟩ := PySem.W.any_some T.hd
  obtain ⟨t1, ho⟩ := exo_at I.hok e
  obtain ⟨hp, g, d, t, os⟩ := s
  refine PySem.W.set_plain I.kIn (ox := { cls := .ref C, dict := none, data := .fields #[.ref t1, .none, .none, .none, .bool false, .none] }) (od := none) ⟨ho, rfl, rfl, trivial⟩ T.sa ?_
  refine _root_.EK.exc_osaG SF I.kIn ho hcl T.ov hdd hno (fun h' tk' dx k dn dne hx hn => ?_)
  have hnd : H dx = none := I.hok.fresh dn
  have nd : ∀ {b : Addr} {o : Obj}, hp.get? b = some o → b ≠ dx := fun {b o} q => Nat.ne_of_lt (Nat.lt_of_lt_of_le (Heap.lt_size q) dn)
  have na : ∀ {b : Addr}, H b = none → b ≠ a := fun {b} n z => by
    rw [z, e] at n
    cases n
  have Un1 : Un X.fs [] H (upd (upd H dx (exd dx [(f, y)])) a (exo a C (some dx))) hp h' := {
    keep := fun b o q n _ _ => k b o (na n) q
    slot := fun b o q n _ _ => ⟨o.slots, k b o (na n) q⟩
    free := fun b o q n _ => by rw [upd_ne (na n), upd_ne (nd q)]; exact n
    there := fun b o q _ => by
      by_cases hb : b = a
      · exact ⟨_, by rw [hb]; exact hx⟩
      · exact ⟨o, k b o hb q⟩
    tups := fun b xs q => by rw [upd_ne (at_ne e q exo_tup), upd_ne (ne_of_none q hnd)]; exact q
    frzs := fun b o v q => by rw [upd_ne (at_ne e q exo_frz), upd_ne (ne_of_none q hnd)]; exact q
    tbls := fun b ps q => ⟨#[], by rw [upd_ne (at_ne e q exo_tbl), upd_ne (ne_of_none q hnd), q]; simp⟩ }
  refine h dx _ hnd dne (I.un (t' := tk') Un1 fun b o q => ?_)
  by_cases hb : b = a
  · subst hb
    rw [upd_same] at q
    cases q
    exact exo_ok hx
  · rw [upd_ne hb] at q
    by_cases hd : b = dx
    · subst hd
      rw [upd_same] at q
      cases q
      exact exd_ok hn (relO_put (fs := []) ry fun g => True.intro)
    · rw [upd_ne hd] at q
      exact (I.hok b o q).stay (fun c v hc z => k c v (by
          rcases hc with hc | hc
          · rw [hc]
            exact hb
          · exact at_ne e hc exo_own) z)
        (fun c hc => by rw [upd_ne (at_ne e hc exo_own), upd_ne (ne_of_none hc hnd)]; exact hc) (fun c xs hc => by rw [upd_ne (at_ne e hc exo_tup), upd_ne (ne_of_none hc hnd)]; exact hc)
/-- B.__init__(self, ..): nothing of it is told -/
theorem oinit_okG {us : List Value} {Q : Value → Shared → Prop} (F : ExcBaseFacts B newId initId bmB) (T : EC X.K C bmB newId) (I : Inv X pins σ H s) (e : H a = some (exo a C none)) (hl : us.length ≤ sizeLine) (h : ∀ s', Inv X pins σ H s' → Q .none s') :
    wpAny (model X.prog X.w) A (call (.builtin initId) (.ref a :: us)) Q E s := by
  obtain ⟨nm, N, qn, bs, bm, hdct, sn, sub, ab, col, dd, k0, k1, k2, k3, k5, hC, hT⟩ := PySem.W.excInit_of I.kIn T.ini
  obtain ⟨t1, ho⟩ := exo_at I.hok e
  obtain ⟨hp, g, d, t, os⟩ := s
  refine wpAny_call (PySem.HandSPX.init_base F hT hC ho hl fun h' t2 k hx => ?_)
  have J := I.write (t' := t) (x := a) (e := a) (o := exo a C none) (by rw [e]; exact True.intro) (.inl rfl) k ⟨_, hx⟩ (exo_ok hx)
  have eu : upd H a (exo a C none) = H := by
    funext b
    by_cases hb : b = a
    · rw [hb, upd_same, e]
    · rw [upd_ne hb]
  rw [eu] at J
  exact h _ J
end

/-- D.__init__(self, ..), D an own class whose __init__ is the built-in's -/
def tOIn (K : PySem.W.Frag) (bmB : List Value) (newId : String) (ta : TA) : TE := fun σ H Q => ta σ H fun vs H1 => ∃ (a C : Addr) (ws : List V), vs = .ref a :: ws ∧ ws.length ≤ 1000 ∧ EC K C bmB newId ∧ H1 a = some (exo a C none) ∧ Q .non H1
/-- self.f = e -/
def tOstG (K : PySem.W.Frag) (bmB : List Value) (newId : String) (f : Str) (to te : TE) : TS := fun D σ H => te σ H fun y H1 => to σ H1 fun x H2 => ∃ a C : Addr, x = .ref a ∧ EC K C bmB newId ∧ PySem.W.takerIn K C f = some none ∧
  H2 a = some (exo a C none) ∧ ∀ dx, H2 dx = none → dx ≠ a → D.nx σ (upd (upd H2 dx (exd dx [(f, y)])) a (exo a C (some dx)))
section
variable {X : Cx} {o e : Expr} {es : List Expr} {to te : TE} {ta : TA} {f x : Str} {p p' p1 p2 pos : Pos} {D : Addr} {B newId initId : String} {bmB : List Value}
theorem pe_oin {pl : Sem Bool} {mc : Value} (F : ExcBaseFacts B newId initId bmB) (hg : Gl X x) (hm : X.mg x = some (.ref D)) (sp : PySem.W.specialIn X.K (.ref D) "__getattribute__" = some (some (.builtin "type.__getattribute__")))
    (tm : PySem.W.typeIn X.K (.ref D) = some mc) (rd : PySem.W.readsIn X.K D mc = true) (vV : PySem.W.findCls X.K (.ref D) mc "__init__" = some (.val (.builtin initId))) (ha : PA X (e :: es) ta) (hh : PySem.W.handedIn (.builtin initId) = true := by decide +kernel)
    (hdb : (x == ("__debug__" : Str)) = false := by decide)
    (hc : eval (.Call (.Attribute (.Name x p1) "__init__" p2) (e :: es) [] pos) X.env = (do
      let ov ← eval (.Name x p1) X.env
      standAt p2.atName
      let (f, first) ← holding [ov] (getMethod ov "__init__" pl)
      callWith pos f first (backTo pos (starEach (e :: es) X.env)) (backToKw pos (keywordEach [] X.env))) := by rfl)
    (he : starEach (e :: es) X.env = (false, eval e X.env) :: starEach es X.env := by rfl) (hpl : (backTo pos (starEach es X.env)).any (·.1) = false := by rfl) :
    PE X (.Call (.Attribute (.Name x p1) "__init__" p2) (e :: es) [] pos) (tOIn X.K bmB newId ta) := by
  refine ⟨fun pins s σ H Q I h => ?_⟩
  refine PySem.W.methodCall_KW (ld_glob I hg hm ?_ hdb) hc
  obtain ⟨m, fr⟩ := I.fr
  refine PySem.W.method_of_cls fr I.ok.mod.kin sp ?_
  refine PySem.W.cls_val fr I.ok.mod.kin tm rd vV hh ?_
  show wpAny _ _ (callWith pos (Value.builtin initId) [] (backTo pos (starEach (e :: es) X.env)) []) _ _ _
  refine PyProof.Rows.callWith_method1 (thn (ha.run pos pins _ σ H _ (I.tok _) h) fun us s1 ⟨vs, H1, I1, r1, a, C, ws, ev, hl, T, ea, q⟩ => ?_) he hpl
  subst ev
  cases r1 with
  | @cons _ u0 _ ur ra rw' =>
    obtain rfl : u0 = Value.ref a := ra
    have hlen : ur.length ≤ sizeLine := by
      rw [← Paired.length rw', sizeLine_eq]
      omega
    exact oinit_okG F T I1 ea hlen fun s' J => ⟨.non, H1, J, rfl, q⟩
theorem ps_ostG (SF : StoreFacts B bmB "object.__setattr__" "object") (ho : PE X o to) (he : PE X e te) (hs : swapsWith e (some (.Attribute o f p')) pos.line X.env = pure false := by rfl) : PS X (.Assign [.Attribute o f p'] e pos) (tOstG X.K bmB newId f to te) := by
  refine ⟨fun pins s σ H D I h => ?_⟩
  refine plainObj_wpAny_Assign_Attribute (thn (he.run pins s σ H _ I h) fun v s1 ⟨y, H1, I1, r1, q1⟩ => thn (ho.run pins s1 σ H1 _ I1 q1) fun u s2 ⟨x, H2, I2, r2, a, C, ex, T, hno, ea, q⟩ => ?_) hs
  subst ex
  obtain rfl : u = Value.ref a := r2
  exact ost_newG SF T I2 ea hno r1 fun dx s' n ne J => ⟨σ, _, J, q dx n ne⟩
end

/-! ### an exception made as a value -/
section
variable {X : Cx} {pins : List (Addr × Obj)} {σ : St} {H : Hp} {s : Shared}
/-- a tracked thing may be told by less -/
theorem Inv.less {a : Addr} {o o' : HO} (I : Inv X pins σ H s) (e : H a = some o) (mu : Mut (some o)) (new : ObjOk X.prog X.w (upd H a o') s.heap a o') : Inv X pins σ (upd H a o') s := by
  obtain ⟨u, hu⟩ : ∃ u, s.heap.get? a = some u := objOk_get (I.hok a o e)
  exact I.write (t' := s.toks) (x := a) (e := a) (o := o') (h' := s.heap) (by rw [e]; exact mu) (.inl rfl) (fun _ _ _ q => q) ⟨u, hu⟩ new
end

/-- the promise of an own __init__ that says D.__init__(self, '..') and self.f = y -/
def spEI (C : Addr) (f : Str) : Sp := fun vs H Q _ => ∃ (a : Addr) (y : V), vs = [.ref a, y] ∧ H a = some (exo a C none) ∧ ∀ dx, H dx = none → dx ≠ a → Q .non (upd (upd H dx (exd dx [(f, y)])) a (exo a C (some dx)))
/-- what C(y) gives -/
def rMkE (C : Addr) (f : Str) (y : V) (H1 : Hp) (Q : VK) : Prop := ∀ a dx, H1 a = none → H1 dx = none → dx ≠ a → Q (.ref a) (upd (upd H1 dx (exd dx [(f, y)])) a (XO C (some dx) a))
def tMkE (C : Addr) (f : Str) (te : TE) : TE := fun σ H Q => te σ H fun x H1 => ∃ y, [x] = [y] ∧ rMkE C f y H1 Q
/-- what C() gives -/
def rMk0 (C : Addr) (H : Hp) (Q : VK) : Prop := ∀ a, H a = none → Q (.ref a) (upd H a (XO C none a))
section
variable {X : Cx} {e : Expr} {te : TE} {f x : Str} {p kp pos : Pos} {C fI : Addr} {B newId initId : String} {bmB : List Value} {k : Nat} {fd : FuncData}
/-- behind the __init__ -/
theorem mkE_end {pins : List (Addr × Obj)} {σ : St} {H1 : Hp} {Q : VK} {s2 : Shared} {a : Addr} {y : V} {u : Value} {s3 : Shared} (I2 : Inv X pins σ (upd H1 a (exo a C none)) s2) (hn : H1 a = none)
    (q : ∀ dx, H1 dx = none → dx ≠ a → Q (.ref a) (upd (upd H1 dx (exd dx [(f, y)])) a (XO C (some dx) a)))
    (h : CE X.stack X.prog X.w (upd H1 a (exo a C none)) s2 (fun v H3 => v = .non ∧ ∃ dx, H1 dx = none ∧ dx ≠ a ∧ H3 = upd (upd (upd H1 a (exo a C none)) dx (exd dx [(f, y)])) a (exo a C (some dx))) u s3) : u = .none ∧ EP X pins σ Q (.ref a) s3 := by
  obtain ⟨v, H', I3, rv, ev, dx, nd, ne, eH⟩ := I2.after h
  subst ev
  refine ⟨rv, ?_⟩
  subst eH
  have ea : (upd (upd (upd H1 a (exo a C none)) dx (exd dx [(f, y)])) a (exo a C (some dx))) a = some (exo a C (some dx)) := upd_same
  obtain ⟨t1, ho⟩ := exo_at I3.hok ea
  have J := Inv.less (o' := XO C (some dx) a) I3 ea True.intro (xo_ok ho)
  have eq : upd (upd (upd (upd H1 a (exo a C none)) dx (exd dx [(f, y)])) a (exo a C (some dx))) a (XO C (some dx) a) = upd (upd H1 dx (exd dx [(f, y)])) a (XO C (some dx) a) := by
    rw [upd_upd]
    funext b
    by_cases hb : b = a
    · rw [hb, upd_same, upd_same]
    · rw [upd_ne hb, upd_ne hb]
      by_cases hd : b = dx
      · rw [hd, upd_same, upd_same]
      · rw [upd_ne hd, upd_ne hd, upd_ne hb]
  rw [eq] at J
  exact ⟨.ref a, _, J, rfl, q dx nd ne⟩
theorem spEI_call {H1 : Hp} {a : Addr} {y : V} (hn : H1 a = none) : spEI C f [.ref a, y] (upd H1 a (exo a C none)) (fun v H3 => v = .non ∧ ∃ dx, H1 dx = none ∧ dx ≠ a ∧ H3 = upd (upd (upd H1 a (exo a C none)) dx (exd dx [(f, y)])) a (exo a C (some dx))) (fun _ _ _ => False) :=
  ⟨a, y, rfl, upd_same, fun dx nd ne => ⟨rfl, dx, by rw [upd_ne ne] at nd; exact nd, ne, rfl⟩⟩
/-- C(e) -/
theorem pe_mkE (F : ExcBaseFacts B newId initId bmB) (T : EC X.K C bmB newId) (iC : PySem.W.findIn X.K (.ref C) "__init__" = some (some (.ref fI))) (tI : PySem.W.typeIn X.K (.ref fI) = some (.type "function"))
    (F1 : FnOk X.prog X.w X.K X.mg X.base CX0 k fI fd ["self", f] (spEI C f)) (hr : Room (k + 1) X.A) (hb : Binds X.K fd ["self", f] []) (hg : Gl X x) (hm : X.mg x = some (.ref C)) (he' : PE X e te)
    (hdb : (x == ("__debug__" : Str)) = false := by decide) (he : starEach [e] X.env = (false, eval e X.env) :: starEach [] X.env := by rfl) (hpl : (backTo pos (starEach [] X.env)).any (·.1) = false := by rfl) :
    PE X (.Call (.Name x p) [e] [] pos) (tMkE C f te) := by
  refine ⟨fun pins s σ H Q I h => ?_⟩
  refine wpAny_Call_Name_kw (ld_glob I hg hm ?_ hdb)
  have ha : PA X [e] (tCons te tNil) := pa_cons he' pa_nil he
  refine PySem.W.callWith_K (h₀ := X.base) I.ok.mod.kin T.kC (thn (ha.run pos pins s σ H (fun vs H1 => ∃ y, vs = [y] ∧ ∀ a dx, H1 a = none → H1 dx = none → dx ≠ a → Q (.ref a) (upd (upd H1 dx (exd dx [(f, y)])) a (XO C (some dx) a))) I h) fun us s1 ⟨vs, H1, I1, r1, y, ev, q1⟩ => ⟨I1.kIn, ?_⟩) he hpl
  subst ev
  show wpAny _ _ (call (.ref C) us) _ _ _
  obtain ⟨nm, N, qn, bs, bm, hdct, sn, sub, ab, col, dd, k0, k1, k2, k3, k5, hC, hT⟩ := PySem.W.excInit_of I1.kIn T.ini
  obtain ⟨hp, g, dr, tk, os⟩ := s1
  have hsz : hp.objs.size ≤ hp.objs.size + 1 := Nat.le_succ _
  have hn : H1 (hp.objs.size + 1) = none := I1.hok.fresh hsz
  have kk : ∀ b o, hp.get? b = some o → ((hp.push (PySem.W.kdv_tup us)).push (PySem.HandSPX.excO C hp.objs.size)).get? b = some o := fun b o e => Heap.get?_push_of_some _ (Heap.get?_push_of_some _ e)
  have hget : ((hp.push (PySem.W.kdv_tup us)).push (PySem.HandSPX.excO C hp.objs.size)).get? (hp.objs.size + 1) = some (PySem.HandSPX.excO C hp.objs.size) := by heap_get
  have I2 : Inv X pins σ (upd H1 (hp.objs.size + 1) (exo (hp.objs.size + 1) C none)) ⟨(hp.push (PySem.W.kdv_tup us)).push (PySem.HandSPX.excO C hp.objs.size), g, dr, tk, os⟩ :=
    I1.laid (t' := tk) (a := hp.objs.size + 1) (o := exo (hp.objs.size + 1) C none) (h' := (hp.push (PySem.W.kdv_tup us)).push (PySem.HandSPX.excO C hp.objs.size)) kk hsz (exo_ok hget)
  have r2 : Vals [V.ref (hp.objs.size + 1), y] (Value.ref (hp.objs.size + 1) :: us) := .cons rfl r1
  have hl : (Value.ref (hp.objs.size + 1) :: us ++ []).length = (["self", f] : List Str).length := by
    rw [List.append_nil, ← r2.length]; rfl
  have hus : us.length ≤ sizeLine := by
    rw [← Paired.length r1, sizeLine_eq]
    show 1 ≤ 16777216
    decide
  refine wpAny_call (PySem.HandSPX.call_own F hT hC (PySem.W.looks_findIn I1.kIn iC) (fun self => PySem.W.bind_fn I1.kIn self tI) hus
    (codeAny_mono (F1.run _ X.stack _ _ ⟨Value.ref (hp.objs.size + 1) :: us, []⟩ (Value.ref (hp.objs.size + 1) :: us) [V.ref (hp.objs.size + 1), y] _ (fun _ _ _ => False) (hr.make C us []) (I2.env0.make C us []) (by have z := hb _ (Value.ref (hp.objs.size + 1) :: us) I2.kIn hl; rw [List.append_nil] at z; exact z) r2 (spEI_call hn)) fun r s' hq' => ?_))
  cases r with
  | error er => exact hq'.elim
  | ok fl =>
    cases fl with
    | ret u => exact mkE_end I2 hn (fun dx nd ne => q1 _ dx hn nd ne) hq'
    | next => exact False.elim hq'
    | brk => exact False.elim hq'
    | cont => exact False.elim hq'
/-- C(f = e) -/
theorem pe_mkEK (F : ExcBaseFacts B newId initId bmB) (T : EC X.K C bmB newId) (iC : PySem.W.findIn X.K (.ref C) "__init__" = some (some (.ref fI))) (tI : PySem.W.typeIn X.K (.ref fI) = some (.type "function"))
    (F1 : FnOk X.prog X.w X.K X.mg X.base CX0 k fI fd ["self", f] (spEI C f)) (hr : Room (k + 1) X.A) (hb : ∀ (s : Shared) (u1 u2 : Value), BindsTo s fd ⟨[u1], [(f, u2)]⟩ [("self", u1), (f, u2)]) (hg : Gl X x) (hm : X.mg x = some (.ref C)) (he' : PE X e te)
    (hall : (backToKw pos (keywordEach [⟨some f, e, kp⟩] X.env)).all (·.1.isSome) = true := by rfl) (hks : (backToKw pos (keywordEach [⟨some f, e, kp⟩] X.env)).filterMap (·.1) = [f] := by rfl) (hdb : (x == ("__debug__" : Str)) = false := by decide)
    (hpl : ((backTo pos (starEach [] X.env)).any (·.1) || (backToKw pos (keywordEach [⟨some f, e, kp⟩] X.env)).any (·.1.isNone)) = false := by rfl) :
    PE X (.Call (.Name x p) [] [⟨some f, e, kp⟩] pos) (tMkE C f te) := by
  refine ⟨fun pins s σ H Q I h => ?_⟩
  refine wpAny_Call_Name_kw (ld_glob I hg hm ?_ hdb)
  have hkw : PK X [⟨some f, e, kp⟩] (tCons te tNil) := pk_cons he' pk_nil
  refine PySem.W.callWith_KW0 (h₀ := X.base) I.ok.mod.kin T.kC hall ?_ hpl
  refine thn (hkw.run pos pins s σ H (fun vs H1 => ∃ y, vs = [y] ∧ ∀ a dx, H1 a = none → H1 dx = none → dx ≠ a → Q (.ref a) (upd (upd H1 dx (exd dx [(f, y)])) a (XO C (some dx) a))) I h) fun ws s1 ⟨vs, H1, I1, r1, y, ev, q1⟩ => ⟨I1.kIn, ?_⟩
  rw [hks]
  subst ev
  obtain ⟨u, rfl, ru⟩ := vals1 r1
  show wpAny _ _ (call (.ref C) [] [(f, u)]) _ _ _
  obtain ⟨nm, N, qn, bs, bm, hdct, sn, sub, ab, col, dd, k0, k1, k2, k3, k5, hC, hT⟩ := PySem.W.excInit_of I1.kIn T.ini
  obtain ⟨hp, g, dr, tk, os⟩ := s1
  have hsz : hp.objs.size ≤ hp.objs.size + 1 := Nat.le_succ _
  have hn : H1 (hp.objs.size + 1) = none := I1.hok.fresh hsz
  have kk : ∀ b o, hp.get? b = some o → ((hp.push (PySem.W.kdv_tup [])).push (PySem.HandSPX.excO C hp.objs.size)).get? b = some o := fun b o e => Heap.get?_push_of_some _ (Heap.get?_push_of_some _ e)
  have hget : ((hp.push (PySem.W.kdv_tup [])).push (PySem.HandSPX.excO C hp.objs.size)).get? (hp.objs.size + 1) = some (PySem.HandSPX.excO C hp.objs.size) := by heap_get
  have I2 : Inv X pins σ (upd H1 (hp.objs.size + 1) (exo (hp.objs.size + 1) C none)) ⟨(hp.push (PySem.W.kdv_tup [])).push (PySem.HandSPX.excO C hp.objs.size), g, dr, tk, os⟩ :=
    I1.laid (t' := tk) (a := hp.objs.size + 1) (o := exo (hp.objs.size + 1) C none) (h' := (hp.push (PySem.W.kdv_tup [])).push (PySem.HandSPX.excO C hp.objs.size)) kk hsz (exo_ok hget)
  have r2 : Vals [V.ref (hp.objs.size + 1), y] [Value.ref (hp.objs.size + 1), u] := .cons rfl r1
  refine wpAny_call (_root_.EK.call_ownK F hT hC (PySem.W.looks_findIn I1.kIn iC) (fun self => PySem.W.bind_fn I1.kIn self tI)
    (codeAny_mono (F1.run _ X.stack _ _ ⟨[Value.ref (hp.objs.size + 1)], [(f, u)]⟩ [Value.ref (hp.objs.size + 1), u] [V.ref (hp.objs.size + 1), y] _ (fun _ _ _ => False) (hr.make C [] [(f, u)]) (I2.env0.make C [] [(f, u)]) (hb _ _ _) r2 (spEI_call hn)) fun r s' hq' => ?_))
  cases r with
  | error er => exact hq'.elim
  | ok fl =>
    cases fl with
    | ret u => exact mkE_end I2 hn (fun dx nd ne => q1 _ dx hn nd ne) hq'
    | next => exact False.elim hq'
    | brk => exact False.elim hq'
    | cont => exact False.elim hq'
/-- C(), a class without own __init__ -/
theorem pe_mkE0 (F : ExcBaseFacts B newId initId bmB) (q : PySem.W.excIn X.K C bmB newId = true) (gC : X.mg x = some (.ref C)) (kC : PySem.W.keepIn X.K (.ref C) = true) (hg : Gl X x)
    (hdb : (x == ("__debug__" : Str)) = false := by decide) : PE X (.Call (.Name x p) [] [] pos) (fun _ H Q => ∃ y : V, y = .non ∧ rMk0 C H Q) := by
  refine ⟨fun pins s σ H Q I h' => ?_⟩
  obtain ⟨_, h⟩ := h'
  refine wpAny_Call_Name_kw (ld_glob I hg gC ?_ hdb)
  refine PySem.W.callWith_K0 I.kIn kC ?_
  show wpAny _ _ (call (.ref C) []) _ _ _
  obtain ⟨bm, N, nm, qn, bs, hdct, sn, sub, ab, col, dd, k0, k1, k2, k3, k5, mN, hC, hN, hni, T⟩ := exc_obj I.kIn q
  refine wpAny_call_exc_subT F T hC hN hni (fun h' a hm => ?_) (by show 0 ≤ sizeLine; omega)
  have hn : H a = none := I.hok.gone hm.new
  obtain ⟨t, ht, _, _⟩ := hm.there
  exact ⟨.ref a, upd H a (XO C none a), I.laidN hm.keeps hm.new hn (xo_ok ht), rfl, h.2 a hn⟩

/-! ### isinstance, attributes -/
/-- what the class says, so that isinstance asks its instances rightly and its fields are read -/
structure EX (K : PySem.W.Frag) (C : Addr) : Prop where
  cl : (PySem.W.clsIn K C).isSome = true
  ga : PySem.W.findIn K (.ref C) "__getattribute__" = some (some (.builtin "BaseException.__getattribute__"))
  gg : PySem.W.findIn K (.ref C) "__getattr__" = some none
  sb : PySem.W.subIn K (.ref C) (.type "BaseException") = some true
  ca : PySem.W.findIn K (.ref C) "__class__" = some (some (.builtin "object.__class__"))
  gs : PySem.W.specialIn K (.builtin "object.__class__") "__get__" = some (some (.builtin "getset_descriptor.__get__"))
  tk : PySem.W.takesIn K (.builtin "object.__class__") = some true
  mo : PySem.W.mroIn K C (.type "object") = some true
  hd : PySem.W.hasDictIn K C = true
/-- at a stands an exception of the class C -/
def XAt (H : Hp) (a C : Addr) : Prop := H a = some (XO C none a) ∨ ∃ dx fs, H a = some (XO C (some dx) a) ∧ H dx = some (exd dx fs)
theorem xat_inst {pins : List (Addr × Obj)} {σ : St} {H : Hp} {s : Shared} {a : Addr} (I : Inv X pins σ H s) (h : XAt H a C) : ∃ ox od, PySem.W.InstAt s.heap a ox C od := by
  rcases h with h | ⟨dx, fs, h, hd⟩
  · obtain ⟨vs, e⟩ := xo_at I.hok h
    exact ⟨_, none, e, rfl, rfl, trivial⟩
  · obtain ⟨vs, e⟩ := xo_at I.hok h
    obtain ⟨mA, hns, _⟩ := exd_at I.hok hd
    obtain ⟨od, ho, _⟩ := lookIn_ns hns
    exact ⟨_, some od, e, rfl, rfl, ho⟩
def rIsX (K : PySem.W.Frag) : List V → Hp → VK → Prop := fun xs H Q => ∃ (a C : Addr) (c : V) (cv : Value) (b : Bool), xs = [.ref a, c] ∧ XAt H a C ∧ EX K C ∧ ClsV c cv ∧ PySem.W.kitOne K (.ref C) cv = some b ∧ Q (.bl b) H
theorem call_isX : CallR X (.builtin "isinstance") (rIsX X.K) := by
  intro pins s σ H xs us Q I r h
  obtain ⟨a, C, c, cv, b, rfl, hx, T, hc, e, q⟩ := h
  obtain ⟨u1, u2, rfl, r1, r2⟩ := vals2 r
  obtain rfl : u1 = Value.ref a := r1
  have ec := hc.eq r2
  subst ec
  obtain ⟨ox, od, J⟩ := xat_inst I hx
  exact PySem.W.kia_one (PySem.W.kitx_exc T.cl T.ga T.gg T.sb T.ca T.gs T.tk T.mo) I.kIn J e (fun z => nomatch z) fun tk => ⟨.bl b, H, I.tok tk, rfl, q⟩
/-- e.f -/
def rXF (K : PySem.W.Frag) (f : Str) (a : Addr) (H1 : Hp) (Q : VK) : Prop := ∃ C dx fs v, H1 a = some (XO C (some dx) a) ∧ H1 dx = some (exd dx fs) ∧ EX K C ∧ PySem.W.findIn K (.ref C) f = some none ∧ fs.lookup f = some v ∧ Q v H1
def tXFld (K : PySem.W.Frag) (f : Str) (te : TE) : TE := fun σ H Q => te σ H fun x H1 => ∃ a, x = .ref a ∧ rXF K f a H1 Q
theorem pe_xfld (he : PE X e te) (hb : attributeBase e f X.env (eval e X.env) = eval e X.env := by rfl) : PE X (.Attribute e f pos) (tXFld X.K f te) := by
  refine ⟨fun pins s σ H Q I h => ?_⟩
  refine attr_of hb (thn (he.run pins s σ H _ I h) fun u s1 hh => ?_)
  obtain ⟨x, H1, I1, rx, a, ex, C, dx, fs, v, ha, hd, T, hno, l, q⟩ := hh
  subst ex
  obtain rfl : u = Value.ref a := rx
  obtain ⟨vs, e⟩ := xo_at I1.hok ha
  obtain ⟨mA, hns, hr⟩ := exd_at I1.hok hd
  obtain ⟨od, ho, hl⟩ := lookIn_ns hns
  obtain ⟨u, hu, ru⟩ := RelO.some_of (v := v) (o := mA f) (by rw [← l]; exact hr f)
  have J : PySem.W.InstAt s1.heap a _ C (some od) := ⟨e, rfl, rfl, ho⟩
  exact HandSPX.exc_get I1.kIn J T.ga T.gg T.sb (PySem.W.findObj_own T.hd hno rfl (by rw [hl, hu])) (handed_of ru) ⟨v, H1, I1.tok _, ru, q⟩
end
end L2.EK

namespace L2.EK
open PySem PySem.Spec PyProof.Rows

/-! ### promises that know of the guards (repr asks for them) -/
structure FnG (P : Program) (w : World) (K : PySem.W.Frag) (mg : Str → Option Value) (base : Heap) (CX : CXT) (k : Nat) (f : Addr) (fd : FuncData) (ps : List Str) (sp : Sp) : Prop where
  len : ∀ vs H Q E, sp vs H Q E → vs.length = ps.length
  run : ∀ (A : Around) (outer : List Env) (s : Shared) (H : Hp) (args : Args) (us : List Value) (vs : List V) (Q : VK) (E : XK), Room k A → A.guards = some [] → Env0 P w K mg base A outer s H → BindsTo s fd args (ps.zip us) → Vals vs us → sp vs H Q E →
    codeAny (model P w) A (.call (.ref f) args) (CR CX outer P w H s Q E) s

theorem fn_ofG {CX : CXT} {P : Program} {w : World} {K : PySem.W.Frag} {mg : Str → Option Value} {base : Heap} {k : Nat} {f : Addr} {nm qual : Str} {pa : Arguments} {bd : List Stmt} {sc : Scope} {dV kV doc pm cdv ct oc : Value} {an od : Option Addr}
    {osl : Array (Option Value)} {N ps : List Str} {sp : Sp} (lk : K.lookup f = some ⟨oc, od, .func (PySem.W.fnOf nm qual pa bd sc dV kV doc pm an cdv ct), osl⟩) (hcd : PySem.W.codeIn K cdv qual = true) (S : FnScope N ps sc)
    (len : ∀ vs H Q E, sp vs H Q E → vs.length = ps.length)
    (go : ∀ (A : Around) (outer : List Env) (s : Shared) (H : Hp) (vs : List V) (Q : VK) (E : XK), Room k (A.deeper (envOfC qual sc s.heap.objs.size f cdv)) → (A.deeper (envOfC qual sc s.heap.objs.size f cdv)).guards = some [] → sp vs H Q E →
      ∃ t, PSs (cxOf CX P w K mg base N qual sc f cdv A outer s H E) bd t ∧ t { nx := fun _ H' => Q .non H', rt := Q } (start N vs) H) :
    FnG P w K mg base CX (k + 1) f (PySem.W.fnOf nm qual pa bd sc dV kV doc pm an cdv ct) ps sp where
  len := len
  run := fun A outer s H args us vs Q E room gd e0 binds rel want => by
    have there : ∀ b o, base.get? b = some o → s.heap.get? b = some o := fun b o e => (e0.bs b o e).1
    have par : ((ps.zip us).all fun y => sc.names.lookup y.1 == some .local || sc.names.lookup y.1 == some .cell) = true := List.all_eq_true.mpr fun y hy => by
      rcases S.par y.1 (List.of_mem_zip (a := y.1) (b := y.2) hy).1 with q | q <;> simp [q]
    obtain ⟨t, ht, hq⟩ := go A outer s H vs Q E (room.deeper _) gd want
    refine Att.call_fn (e0.mod.kin.keeps there) (e0.mod.nolimit.keeps there) lk hcd room.depth binds par (fun s1 x => ?_) S.co S.gen S.kind
    refine wpAny_mono (ht.run [] s1 (start N vs) H _ (inv_start S room.hd e0 (len _ _ _ _ want) rel x) hq) (fun fl s' got => ?_) fun _ _ z => z
    match fl, got with
    | .ret _, ⟨v, _, H', J, rv, q⟩ => exact ⟨v, H', J.os, J.bare, J.base, J.hok, rv, q⟩
    | .next, ⟨_, H', J, q⟩ => exact ⟨.non, H', J.os, J.bare, J.base, J.hok, rfl, q⟩
    | .brk, ⟨_, _, _, q⟩ => exact q.elim
    | .cont, ⟨_, _, _, q⟩ => exact q.elim
section
variable {P : Program} {w : World} {K : PySem.W.Frag} {mg : Str → Option Value} {base : Heap}
theorem Fun.okG {x qual : Str} {st : Stmt} {f : Addr} {fd : FuncData} {N ps : List Str} {k : Nat} {sp : Sp} (F : Fun K x qual st f fd) (S : FnScope N ps (defScope st)) (len : ∀ vs H Q E, sp vs H Q E → vs.length = ps.length)
    (hbody : ∀ (cdv : Value) (A : Around) (outer : List Env) (s : Shared) (H : Hp) (vs : List V) (Q : VK) (E : XK), Room k (A.deeper (envOfC qual (defScope st) s.heap.objs.size f cdv)) → (A.deeper (envOfC qual (defScope st) s.heap.objs.size f cdv)).guards = some [] → sp vs H Q E →
      ∃ t, PSs (cxOf CX0 P w K mg base N qual (defScope st) f cdv A outer s H E).nox (defBody st) t ∧ t { nx := fun _ H' => Q .non H', rt := Q } (start N vs) H) : FnG P w K mg base CX0 (k + 1) f fd ps sp := by
  obtain ⟨oc, od, kV, doc, pm, an, cdv, ct, osl, rfl, lk, hcd⟩ := F.ex
  refine fn_ofG lk hcd S len fun A outer s H vs Q E hr hG hsp => ?_
  obtain ⟨t, h, q⟩ := hbody cdv A outer s H vs Q E hr hG hsp
  exact ⟨t, h.nox, q⟩
end
section
variable {X : Cx} {CX : CXT} {k : Nat} {f C : Addr} {fd : FuncData} {ps : List Str} {sp : Sp} {dvs : List V} {ds : List Value} {E : XK} {x m : Str} {p pos apos : Pos} {e o : Expr} {es : List Expr} {ta : TE} {t : TA}
theorem run_fnG {pins : List (Addr × Obj)} {σ : St} {H : Hp} {s : Shared} {Q : VK} {us : List Value} {vs : List V} (F : FnG X.prog X.w X.K X.mg X.base CX k f fd ps sp) (hr : Room k X.A) (hG : X.A.guards = some []) (hb : Binds X.K fd ps ds) (hd : Vals dvs ds) (hx : Passes CX X E)
    (I : Inv X pins σ H s) (r : Vals vs us) (h : sp (vs ++ dvs) H Q E) : wpAny (model X.prog X.w) X.A (call (.ref f) us) (EP X pins σ Q) X.xe s := by
  have r2 : Vals (vs ++ dvs) (us ++ ds) := r.append hd
  have hl : (us ++ ds).length = ps.length := by rw [← r2.length]; exact F.len _ _ _ _ h
  refine wpAny_call (codeAny_mono (F.run X.A X.stack s H ⟨us, []⟩ (us ++ ds) (vs ++ dvs) Q E hr hG I.env0 (hb s us I.kIn hl) r2 h) fun r s' hq => ?_)
  cases r with
  | error e => exact hx pins σ H s e s' I hq
  | ok fl =>
    cases fl with
    | ret u => exact I.after hq
    | next => exact False.elim hq
    | brk => exact False.elim hq
    | cont => exact False.elim hq
theorem pe_callG (F : FnG X.prog X.w X.K X.mg X.base CX k f fd ps sp) (hr : Room k X.A) (hG : X.A.guards = some []) (hg : Gl X x) (hm : X.mg x = some (.ref f)) (hk : PySem.W.keepIn X.K (.ref f) = true) (hb : Binds X.K fd ps ds) (hd : Vals dvs ds) (hx : Passes CX X E)
    (ha : PA X (e :: es) t) (hdb : (x == ("__debug__" : Str)) = false := by decide) (he : starEach (e :: es) X.env = (false, eval e X.env) :: starEach es X.env := by rfl) (hpl : (backTo pos (starEach es X.env)).any (·.1) = false := by rfl) :
    PE X (.Call (.Name x p) (e :: es) [] pos) (tCall sp dvs E t) := by
  refine ⟨fun pins s σ H Q I h => ?_⟩
  refine wpAny_Call_Name_kw (ld_glob I hg hm ?_ hdb)
  refine PySem.W.callWith_K (h₀ := X.base) I.ok.mod.kin hk (thn (ha.run pos pins s σ H _ I h) fun us s1 ⟨vs, H1, I1, r, q⟩ => ⟨I1.kIn, ?_⟩) he hpl
  exact run_fnG F hr hG hb hd hx I1 r q
end

/-! ### repr of data -/
def rRep (K : PySem.W.Frag) : List V → Hp → VK → Prop := fun xs H Q => ∃ x d, xs = [x] ∧ Dp K H x d ∧ d.showable = true ∧ d.hasDict = false ∧ d.depth ≤ 8 ∧ d.shown.length ≤ sizeLine ∧ Q (.str d.shown) H
theorem call_rep {X : Cx} (hG : X.A.guards = some []) (hu : X.A.units + 64 < cLine) : CallR X (.builtin "repr") (rRep X.K) := by
  intro pins s σ H xs us Q I r h
  obtain ⟨x, d, rfl, hd, hs, hn, hdp, hz, q⟩ := h
  obtain ⟨u, rfl, ru⟩ := vals1 r
  have fin : ∀ h' uu tk, (∀ b o, s.heap.get? b = some o → h'.get? b = some o) → EP X pins σ Q (.str d.shown uu) { s with heap := h', toks := tk } := fun h' uu tk hk => ⟨.str d.shown, H, I.kept hk, ⟨_, rfl⟩, q⟩
  have refs : ∀ a, u = .ref a → wpAny (model X.prog X.w) X.A (call (.builtin "repr") [u]) (EP X pins σ Q) X.xe s := fun a ea => by
    obtain ⟨as, rr⟩ := Dp.reads I d x u hd ru
    subst ea
    exact repr_of_reads' rr hs (fun z => by rw [hn] at z; cases z) hG (by omega) (fun _ _ e => e) (fun h' uu tk hk => fin h' uu tk hk) hz
  cases hd with
  | non => cases ru; exact PySem.P.repr_of_none (by simp only [PyData.shown] at fin; exact fin s.heap _ _ fun _ _ z => z)
  | bl b => cases ru; exact PySem.P.repr_of_bool (by simp only [PyData.shown] at fin; exact fin s.heap _ _ fun _ _ z => z)
  | int i => obtain ⟨t, rfl⟩ := ru; exact PySem.P.repr_of_int (by simpa [PyData.showable] using hs) (by simp only [PyData.shown] at fin; exact fin s.heap _ _ fun _ _ z => z)
  | str z => obtain ⟨t, rfl⟩ := ru; exact PySem.P.repr_of_str (by simp only [PyData.shown] at fin; exact fin s.heap _ _ fun _ _ z => z) (by simpa only [PyData.shown] using hz)
  | lst h1 h2 => exact refs _ ru
  | tup h1 h2 => exact refs _ ru

/-- repr of a dict {i: None} -/
def rRepD : List V → Hp → VK → Prop := fun xs H Q => ∃ (a : Addr) (i : Int), xs = [.ref a] ∧ H a = some (.dK [(Sum.inl i, .non)]) ∧ i.natAbs.log2 < 1920 ∧ (PyData.shown (.dict [(.int i, .none)])).length ≤ sizeLine ∧ Q (.str (PyData.shown (.dict [(.int i, .none)]))) H
theorem call_repD {X : Cx} (hG : X.A.guards = some []) (hu : X.A.units + 64 < cLine) : CallR X (.builtin "repr") rRepD := by
  intro pins s σ H xs us Q I r h
  obtain ⟨a, i, rfl, ha, hi, hz, q⟩ := h
  obtain ⟨u, rfl, ru⟩ := vals1 r
  obtain rfl : u = Value.ref a := ru
  obtain ⟨_, hsys, vs, rv, o, es, ep, ho, hex, hd, _, hp, _⟩ := (show ObjOk X.prog X.w H s.heap a (.dK [(Sum.inl i, .non)]) from I.hok a _ ha)
  obtain ⟨as, rr⟩ : ∃ as, Reads s.heap (.ref a) (.dict [(.int i, .none)]) as ∧ as = [a] := by
    cases rv with
    | @cons _ kv _ vs' r1 r2 =>
      cases r2
      obtain ⟨e1, e2⟩ := r1
      cases hl : es.toList with
      | nil => rw [hl] at hp; cases hp
      | cons e1' es' =>
        rw [hl] at hp
        cases hp with
        | cons k1 k2 k3 =>
          cases k3
          have hk : e1'.key = Value.int i (match e1'.key with | .int _ t => t | _ => 0) := by
            have z : keyIs kv.1 e1'.key = true := k1
            rw [← e1] at z
            obtain ⟨t, et⟩ := Value.isInt_shape (k := i) (v := e1'.key) z
            rw [et]
          have hv : e1'.val = Value.none := k2.trans e2
          refine ⟨[a], Reads.dict (as := []) (bs := []) ho hex.1 hd ?_ ?_, rfl⟩
          · rw [hl]
            show ReadsAll s.heap [e1'.key] [PyData.int i] []
            rw [hk]
            exact ReadsAll.cons (Reads.int _ _) ReadsAll.nil
          · rw [hl]
            show ReadsAll s.heap [e1'.val] [PyData.none] []
            rw [hv]
            exact ReadsAll.cons Reads.none ReadsAll.nil
  obtain ⟨rr, rfl⟩ := rr
  have hs : PyData.showable (.dict [(.int i, .none)]) = true := by simp [PyData.showable, PyData.showableKv, hi]
  refine repr_of_reads' rr hs (fun _ z => ?_) hG ?_ (fun _ _ e => e) (fun h' uu tk hk => ⟨.str _, H, I.kept hk, ⟨_, rfl⟩, q⟩) hz
  · have z' : sysModules = a := List.mem_singleton.mp z
    rw [z'] at hsys
    simp at hsys
  · show _ + (PyData.depth (.dict [(.int i, .none)]) + 1) < _
    have : PyData.depth (.dict [(.int i, .none)]) = 1 := rfl
    omega

/-! ### the law's end, with the guards and the module's values that the top reckons -/
/-- the abstract heap at the law's entry: the script alone, if it is none of the module's own -/
def entryH (K : PySem.W.Frag) (a : Addr) (o : Obj) (xs : List V) : Hp := fun b => if b = a ∧ K.lookup a = none then some (.frz o (.lst xs)) else none
section
variable {P : Program} {w : World} {K : PySem.W.Frag} {mg mb : Str → Option Value} {a : Addr} {s₁ : Shared} {vs : List Value} {ns : List Int}
theorem entry_env (KX : K.In s₁.heap) (hns : s₁.heap.Ns mainGlobals mg) (hb : s₁.heap.Ns builtinsNs mb) (hbb : ∀ x : Str, x ≠ "__name__" → mb x = bootBuiltins x) (hlim : s₁.heap.NoLimit) (hg : s₁.gens = #[])
    (ha : s₁.heap.get? a = some { cls := .type "list", data := .seq vs.toArray }) (hi : IntsAre vs ns) (hl : ns.length ≤ sizeLine) :
    Env0 P w K mg (hidT s₁.heap (entryH K a { cls := .type "list", data := .seq vs.toArray } (ns.map V.int))) callerA [] s₁ (entryH K a { cls := .type "list", data := .seq vs.toArray } (ns.map V.int)) := by
  generalize hH : entryH K a { cls := .type "list", data := .seq vs.toArray } (ns.map V.int) = H
  have off : ∀ b, b ≠ a → H b = none := fun b hn => by rw [← hH]; exact if_neg fun z => hn z.1
  have offK : ∀ b o, K.lookup b = some o → H b = none := fun b o e => by
    rw [← hH]
    exact if_neg fun z => by rw [z.1, z.2] at e; cases e
  have see : ∀ {b : Addr} {o : Obj}, s₁.heap.get? b = some o → H b = none → (hidT s₁.heap H).get? b = some o := fun e n => hidT_get e n
  have ns' : ∀ {b : Addr} {m : Str → Option Value}, s₁.heap.Ns b m → (hidT s₁.heap H).Ns b m := fun {b m} ⟨o, es, ep, e, d, r⟩ => ⟨o, es, ep, see e (off b fun z => by
    rw [z, ha] at e
    cases e
    cases d), d, r⟩
  refine ⟨rfl, ⟨fun b o e => see (KX b o e) (offK b o e), ns' hns, ⟨mb, ns' hb, hbb⟩, ?_⟩, fun b o e => of_hidT e, Nat.le_of_eq (hidT_size _ _), trivial, fun b hb => absurd hb (List.not_mem_nil (a := b)), fun b u e => ?_, .of_eq hg⟩
  · obtain ⟨mc, h1, h2⟩ := hlim
    exact ⟨mc, ns' h1, h2⟩
  · by_cases hn : b = a
    · rw [hn] at e ⊢
      rw [← hH] at e
      unfold entryH at e
      split at e
      · cases e
        exact ⟨ha, by rw [List.length_map]; exact hl, vs, _, vals_ints hi, ha⟩
      · cases e
    · rw [off b hn] at e
      cases e
theorem entry_seq (KX : K.In s₁.heap) (ha : s₁.heap.get? a = some { cls := .type "list", data := .seq vs.toArray }) (hi : IntsAre vs ns) (hl : ns.length ≤ sizeLine) :
    SqL K (entryH K a { cls := .type "list", data := .seq vs.toArray } (ns.map V.int)) a (ns.map V.int) := by
  cases hk : K.lookup a with
  | none => exact .inl (.inr ⟨_, if_pos ⟨rfl, hk⟩⟩)
  | some o =>
    have e := KX a o hk
    rw [ha] at e
    cases e
    exact .inr ⟨_, vs.toArray, _, hk, rfl, rfl, rfl, by rw [List.size_toArray, hi.length]; exact hl, by simpa using vals_ints hi⟩
theorem entry_only (o : Obj) (xs : List V) : Only (entryH K a o xs) := fun b => by
  unfold entryH
  split
  · exact .inr ⟨_, _, rfl⟩
  · exact .inl rfl
theorem law_callG {CX : CXT} {k : Nat} {fa : Addr} {fd : FuncData} {x : Str} {sp : Sp}
    (KX : K.In s₁.heap) (hns : s₁.heap.Ns mainGlobals mg) (hb : s₁.heap.Ns builtinsNs mb) (hbb : ∀ x : Str, x ≠ "__name__" → mb x = bootBuiltins x) (hlim : s₁.heap.NoLimit) (hg : s₁.gens = #[])
    (ha : s₁.heap.get? a = some { cls := .type "list", data := .seq vs.toArray }) (hi : IntsAre vs ns) (hl : ns.length ≤ sizeLine) (hr : Room k callerA)
    (F : ∀ base : Heap, K.In base → base.Ns mainGlobals mg → FnG P w K mg base CX k fa fd [x] sp) (hbind : ∀ (s : Shared) (u : Value), BindsTo s fd ⟨[u], []⟩ [(x, u)])
    (hsp : ∀ H : Hp, Only H → SqL K H a (ns.map V.int) → sp [.ref a] H (fun v _ => v = .bl true) fun _ _ _ => False)
    (hCX : ∀ H e s', CX [] H s₁ (fun _ _ _ => False) e s' → False) :
    codeAny (model P w) callerA (.call (.ref fa) ⟨[.ref a], []⟩) (fun r s' => r = .ok (.ret (.bool true)) ∧ OldK s₁.heap s'.heap ∧ s'.os = s₁.os ∧ AllBare s'.gens) s₁ := by
  have e0 := entry_env (P := P) (w := w) KX hns hb hbb hlim hg ha hi hl
  have only := entry_only (K := K) (a := a) { cls := .type "list", data := .seq vs.toArray } (ns.map V.int)
  refine codeAny_mono ((F _ e0.mod.kin e0.mod.glob).run callerA [] s₁ _ ⟨[.ref a], []⟩ [.ref a] [.ref a] _ _ hr rfl e0 (hbind s₁ (.ref a)) (.cons rfl .nil) (hsp _ only (entry_seq KX ha hi hl))) fun r s' got => ?_
  match r, got with
  | .error e, got => exact (hCX _ e s' got).elim
  | .ok .next, got => exact got.elim
  | .ok .brk, got => exact got.elim
  | .ok .cont, got => exact got.elim
  | .ok (.ret u), ⟨v, H', os, bare, un, hok', r', q⟩ =>
    have q' : v = .bl true := q
    subst q'
    obtain rfl : u = Value.bool true := r'
    refine ⟨rfl, OldK.of_keep fun b o e => ?_, os, bare⟩
    rcases only b with n | ⟨ob, xs, z⟩
    · exact un.keep b o e n (List.not_mem_nil (a := b)) (List.not_mem_nil (a := b))
    · have z1 := (e0.hok b _ z).1
      have z2 := (hok' b _ (un.frzs b ob _ z)).1
      rw [e] at z1
      cases z1
      exact z2
end
theorem walk_ofG {l : PySem.W.OpenLaw} {n k : Nat} {q : Program} {loose : List Str} {XP : (Str → Option Value) → Heap → Prop} {YP : World → Heap → Prop} {d : DefRec} {K : Params → PySem.W.Frag} {CX : World → CXT} {sp : World → Sp} {x : Str}
    (hn : l.most = some n) (hn2 : n ≤ sizeLine) (hdf : d.params.defaults = []) (hr : Room k callerA)
    (hY : ∀ (w : World) (h : Heap), YP w h → (K w.params).In h)
    (F : ∀ (w : World) (mg : Str → Option Value) (fa : Addr) (h : Heap), (K w.params).In h → h.Ns mainGlobals mg → XP mg h → mg d.name = some (.ref fa) →
      ∃ fd : FuncData, (∀ (s : Shared) (u : Value), BindsTo s fd ⟨[u], []⟩ [(x, u)]) ∧
        ∀ base : Heap, (K w.params).In base → base.Ns mainGlobals mg → FnG l.prog w (K w.params) mg base (CX w) k fa fd [x] (sp w))
    (hsp : ∀ (w : World) (H : Hp) (a : Addr) (ns : List Int), ns.length ≤ n → Only H → SqL (K w.params) H a (ns.map V.int) → sp w [.ref a] H (fun v _ => v = .bl true) fun _ _ _ => False)
    (hCX : ∀ (w : World) (H : Hp) (s : Shared) (e : Value) (s' : Shared), CX w [] H s (fun _ _ _ => False) e s' → False) :
    PySem.W.WalkO q loose XP YP l.row.toRowW d [] (fun f vs => PySem.call f vs) := by
  refine Att.attach_call hn hdf fun w s₀ s₁ mg mb fa o pm cd doc a vs ns G Y ho hd hcd hmg hobj hints hlen hg => ?_
  have KX := hY w _ Y
  obtain ⟨fd, hb, hF⟩ := F w mg fa _ KX G.T.g G.X hmg
  exact law_callG KX G.T.g G.T.b G.T.builtins G.T.nolimit hg hobj hints (Nat.le_trans hlen hn2) hr hF hb (fun H hO hS => hsp w H a ns hlen hO hS) fun H e s' => hCX w H s₁ e s'
end L2.EK

namespace L2.EK
open PySem PySem.Spec PyProof.Rows

theorem XAt.up {H : Hp} {a C l : Addr} {o : HO} (h : XAt H a C) (hl : H l = none) : XAt (upd H l o) a C := by
  rcases h with h | ⟨dx, fs, h, hd⟩
  · exact .inl (by rw [upd_ne (ne_of_none h hl)]; exact h)
  · exact .inr ⟨dx, fs, by rw [upd_ne (ne_of_none h hl)]; exact h, by rw [upd_ne (ne_of_none hd hl)]; exact hd⟩
theorem XAt.same {H H' : Hp} {a C : Addr} (h : XAt H a C) (s : Same H H') : XAt H' a C := by
  rcases h with h | ⟨dx, fs, h, hd⟩
  · exact .inl (s _ _ h)
  · exact .inr ⟨dx, fs, s _ _ h, s _ _ hd⟩
theorem sameUp {H H1 : Hp} {l : Addr} {o : HO} (s : Same H H1) (hl : H1 l = none) : Same H (upd H1 l o) := fun b u e => by
  rw [upd_ne (ne_of_none (s b u e) hl)]
  exact s b u e

/-! ### count of flat items -/
section
variable {X : Cx}
def rCntF (K : PySem.W.Frag) : V → List V → Hp → VK → Prop := fun x xs H Q => ∃ (p : Addr) (ys : List V) (y : V), x = .ref p ∧ xs = [y] ∧ SqL K H p ys ∧ flatV y = true ∧ ys.all flatV = true ∧ Q (.int ((ys.countP fun z => eqV z y) : Nat)) H
theorem count_vals {y : V} {uy : Value} (ry : RelV y uy) (fy : flatV y = true) : ∀ {ys : List V} {us : List Value}, Vals ys us → ys.all flatV = true → us.countP (eqU y) = ys.countP fun z => eqV z y
  | _, _, .nil, _ => rfl
  | z :: ys, u :: us, .cons r t, f => by
    rw [List.all_cons, Bool.and_eq_true] at f
    rw [List.countP_cons, List.countP_cons, count_vals ry fy t f.2, eqU_of r f.1]
theorem mt_lcountF : MtR X "list.count" (rCntF X.K) := by
  intro pins s σ H x xs v us Q I rx rxs h
  obtain ⟨p, ys, y, rfl, rfl, hs, fy, fys, q⟩ := h
  cases rx
  obtain ⟨u, rfl, ru⟩ := rxs.one
  obtain ⟨its, rv, ⟨⟨cls, dd, data, sl⟩, n, ho, hc, hdn, hd⟩, hlen⟩ := I.list hs
  simp only at hc hd
  subst hc hd
  refine call_meets PySem.F.slot_list_count ⟨_, ho, rfl⟩ PySem.F.entry_list_count (PySem.F.args_list_count_2 _ _)
    (SeqAt.list_countAt p its.toArray n dd sl u (eqU y)) ⟨ho, fun u' hu' => mem_eqAt ru fy rv fys u' (by simpa using hu'), ?_⟩
  refine ⟨.int ((ys.countP fun z => eqV z y) : Nat), H, I.tok _, ⟨s.toks, ?_⟩, q⟩
  show Value.int ((its.toArray.toList.countP (eqU y) : Nat) : Int) s.toks = Value.int _ s.toks
  rw [show its.toArray.toList = its by simp, count_vals ru fy rv fys]
end
end L2.EK

namespace L2.EK
open PySem PySem.Spec PyProof.Rows
def topS (i : Nat) : Stmt := PySem.Challenge.pw_halverules_k01_errors_and_limits.main.body.getD i (.Pass ⟨0, 0, 0, 0⟩)
abbrev sErr : Stmt := topS 29

def names17 : List Str := ["InvalidNumber", "InvalidName", "InvalidRule", "NotFitting", "InvalidValues", "InvalidDeeds", "InvalidText", "InvalidCommand", "NotAFunction", "UnknownName", "Refused", "Parted", "Busy", "NothingToUndo", "NoMember", "TooMany", "TooManyStates"]
def cname (i : Nat) : Str := names17.getD i ""
def dname (k : Nat) : Str := (["InputError", "StateError", "LimitError"] : List Str).getD k ""
def bname (k : Nat) : String := ["ValueError", "LookupError", "ArithmeticError"].getD k ""
def grp (i : Nat) : Nat := if i < 9 then 0 else if i < 15 then 1 else 2
/-- what the written part says of the seventeen classes -/
structure Cl (K : PySem.W.Frag) (mg : Str → Option Value) (C D : Nat → Addr) : Prop where
  mgC : ∀ i, i < 17 → mg (cname i) = some (.ref (C i))
  mgD : ∀ k, k < 3 → mg (dname k) = some (.ref (D k))
  ex : ∀ i, i < 17 → EX K (C i)
  tab : ∀ i j, i < 17 → j < 17 → PySem.W.kitOne K (.ref (C i)) (.ref (C j)) = some (decide (j = i))
  tabD : ∀ i k, i < 17 → k < 3 → PySem.W.kitOne K (.ref (C i)) (.ref (D k)) = some (decide (k = grp i))
  tabB : ∀ i k, i < 17 → k < 3 → PySem.W.kitOne K (.ref (C i)) (.type (bname k)) = some (decide (k = grp i))
  isi : mg "isinstance" = none
  vE : mg "ValueError" = none
  lE : mg "LookupError" = none
  aE : mg "ArithmeticError" = none

theorem isAns {K : PySem.W.Frag} {mg : Str → Option Value} {C D : Nat → Addr} (T : Cl K mg C D) {H : Hp} {a : Addr} {i j : Nat} {Q : VK} (hi : i < 17) (hj : j < 17) (h : XAt H a (C i)) (q : Q (.bl (decide (j = i))) H) : rIsX K [.ref a, .ref (C j)] H Q :=
  ⟨a, C i, _, _, _, rfl, h, T.ex i hi, .own _, T.tab i j hi hj, q⟩
theorem isAnsD {K : PySem.W.Frag} {mg : Str → Option Value} {C D : Nat → Addr} (T : Cl K mg C D) {H : Hp} {a : Addr} {i k : Nat} {Q : VK} (hi : i < 17) (hk : k < 3) (h : XAt H a (C i)) (q : Q (.bl (decide (k = grp i))) H) : rIsX K [.ref a, .ref (D k)] H Q :=
  ⟨a, C i, _, _, _, rfl, h, T.ex i hi, .own _, T.tabD i k hi hk, q⟩
theorem isAnsB {K : PySem.W.Frag} {mg : Str → Option Value} {C D : Nat → Addr} (T : Cl K mg C D) {H : Hp} {a : Addr} {i k : Nat} {Q : VK} (hi : i < 17) (hk : k < 3) (h : XAt H a (C i)) (q : Q (.bl (decide (k = grp i))) H) : rIsX K [.ref a, .ty (bname k)] H Q :=
  ⟨a, C i, _, _, _, rfl, h, T.ex i hi, .ty _, T.tabB i k hi hk, q⟩

def sorts (i : Nat) : List Bool := (List.range 17).map fun j => decide (j = i)
def bases (i : Nat) : List Bool := (List.range 3).map fun k => decide (k = grp i)
theorem sorts_all : ∀ i, i < 17 → (sorts i).length = 17 ∧ ((sorts i).map V.bl).countP (fun z => eqV z (.bl true)) = 1 ∧ ((sorts i).map V.bl)[i]? = some (.bl true) ∧ (∀ m, m < i → ∀ z', ((sorts i).map V.bl)[m]? = some z' → eqV z' (.bl true) = false) := by
  decide
end L2.EK

namespace L2.EK
open PySem PySem.Spec PyProof.Rows
/-- a list laid, then joined to one that stands -/
theorem catAns {H0 H1 : Hp} {l m : Addr} {xs ys : List V} {Q : VK} (s : Same H0 H1) (h : H1 l = some (.lst xs)) (hm : H1 m = none) (hz : xs.length + ys.length ≤ 100) (q : ∀ p H2, Same H0 H2 → H2 p = some (.lst (xs ++ ys)) → Q (.ref p) H2) :
    rCat (.ref l) (.ref m) (upd H1 m (.lst ys)) Q :=
  ⟨l, m, xs, ys, rfl, rfl, by rw [upd_ne (ne_of_none h hm)]; exact h, upd_same, Nat.le_trans hz (by decide), fun p hp => q p _ (sameUp (sameUp s hm) hp) upd_same⟩
theorem shaped3 : ∀ x y z : Bool, SeqAt.shaped (.list [.bool x, .bool y, .bool z]) = true := by decide +kernel
theorem eqv3 : ∀ x y z : Bool, PyData.eqv (.list [.bool x, .bool y, .bool z]) (.list [.bool x, .bool y, .bool z]) = true := by decide +kernel
theorem dp3 {K : PySem.W.Frag} {H : Hp} {a : Addr} {x y z : Bool} (h : H a = some (.lst [.bl x, .bl y, .bl z])) : Dp K H (.ref a) (.list [.bool x, .bool y, .bool z]) :=
  .lst (SqL.of h) (.cons (.bl x) (.cons (.bl y) (.cons (.bl z) .nil)))
theorem bases_all : ∀ i, i < 17 → bases i = [decide ((i : Int) < 9), decide ((8 : Int) < i) && decide ((i : Int) < 15), decide ((14 : Int) < i)] := by decide
def spErr (C : Nat → Addr) : Sp := fun vs H Q _ => ∃ (a : Addr) (i : Nat), vs = [.ref a] ∧ i < 17 ∧ XAt H a (C i) ∧ ∀ H', Same H H' → Q (.int (i : Int)) H'
theorem scErr : FnScope ["_law_e", "_law_sorts", "_law_bases", "_law_own", "_law_at"] ["_law_e"] (defScope sErr) := ⟨rfl, rfl, rfl, by decide +kernel, rfl, by decide +kernel, by decide +kernel⟩
section
variable {P : Program} {w : World} {K : PySem.W.Frag} {mg : Str → Option Value} {base : Heap} {C D : Nat → Addr}
section
variable {X : Cx} {p1 p2 p3 p4 : Pos}
theorem cn_db : ∀ j, j < 17 → (cname j == ("__debug__" : Str)) = false := by decide +kernel
theorem dn_db : ∀ j, j < 3 → (dname j == ("__debug__" : Str)) = false := by decide +kernel
theorem isC (T : Cl X.K X.mg C D) (j : Nat) {x : Str} (hj : j < 17) (hx : cname j = x) (hv : X.N[0]? = some ("_law_e" : Str)) (hvs : Vis X.env.scope ("_law_e" : Str)) (g1 : Gl X "isinstance") (g2 : Gl X x) :
    PE X (.Call (.Name "isinstance" p1) [.Name "_law_e" p2, .Name x p3] [] p4) (tCB (rIsX X.K) (tCons (tVar 0) (tCons (tC (.ref (C j))) tNil))) :=
  pe_callB call_isX g1 T.isi boot_isinstance (pa_cons (pe_var hv hvs) (pa_cons (pe_glob g2 (by rw [← hx]; exact T.mgC j hj) rfl (by rw [← hx]; exact cn_db j hj)) pa_nil))
theorem isD (T : Cl X.K X.mg C D) (j : Nat) {x : Str} (hj : j < 3) (hx : dname j = x) (hv : X.N[0]? = some ("_law_e" : Str)) (hvs : Vis X.env.scope ("_law_e" : Str)) (g1 : Gl X "isinstance") (g2 : Gl X x) :
    PE X (.Call (.Name "isinstance" p1) [.Name "_law_e" p2, .Name x p3] [] p4) (tCB (rIsX X.K) (tCons (tVar 0) (tCons (tC (.ref (D j))) tNil))) :=
  pe_callB call_isX g1 T.isi boot_isinstance (pa_cons (pe_var hv hvs) (pa_cons (pe_glob g2 (by rw [← hx]; exact T.mgD j hj) rfl (by rw [← hx]; exact dn_db j hj)) pa_nil))
theorem isB (T : Cl X.K X.mg C D) {t : String} {x : Str} (hm : X.mg x = none) (hb : bootBuiltins x = some (.type t)) (hv : X.N[0]? = some ("_law_e" : Str)) (hvs : Vis X.env.scope ("_law_e" : Str)) (g1 : Gl X "isinstance") (g2 : Gl X x) (hn : x ≠ "__name__" := by decide) (hdb : (x == ("__debug__" : Str)) = false := by decide) :
    PE X (.Call (.Name "isinstance" p1) [.Name "_law_e" p2, .Name x p3] [] p4) (tCB (rIsX X.K) (tCons (tVar 0) (tCons (tC (.ty t)) tNil))) :=
  pe_callB call_isX g1 T.isi boot_isinstance (pa_cons (pe_var hv hvs) (pa_cons (pe_bltn g2 hm hb rfl hn hdb) pa_nil))
end
theorem ok_err {f : Addr} {fd : FuncData} (F : Fun K "_law_error" "_law_error" sErr f fd) (T : Cl K mg C D) : FnOk P w K mg base CX0 1 f fd ["_law_e"] (spErr C) := by
  refine F.ok scErr (fun vs H Q E h => ?_) (fun cdv A outer s H vs Q E hr h => ?_)
  · obtain ⟨a, i, rfl, _⟩ := h
    rfl
  · obtain ⟨a, i, rfl, hi, hx, k⟩ := h
    have nd := scErr.nd
    have ic := fun j (hj : j < 17) {x : Str} (hxx : cname j = x) {p1 p2 p3 p4 : Pos} => isC (X := (cxOf CX0 P w K mg base ["_law_e", "_law_sorts", "_law_bases", "_law_own", "_law_at"] "_law_error" (defScope sErr) f cdv A outer s H E).nox) (p1 := p1) (p2 := p2) (p3 := p3) (p4 := p4) T j hj hxx rfl (Or.inl rfl) rfl
    have id' := fun j (hj : j < 3) {x : Str} (hxx : dname j = x) {p1 p2 p3 p4 : Pos} => isD (X := (cxOf CX0 P w K mg base ["_law_e", "_law_sorts", "_law_bases", "_law_own", "_law_at"] "_law_error" (defScope sErr) f cdv A outer s H E).nox) (p1 := p1) (p2 := p2) (p3 := p3) (p4 := p4) T j hj hxx rfl (Or.inl rfl) rfl
    have pv0 := fun (i : Nat) => i
    refine ⟨_, pss_cons (ps_set (i := 1) nd rfl (Or.inl rfl) (pe_lst (pa_cons (ic 0 (by decide) rfl rfl) (pa_cons (ic 1 (by decide) rfl rfl) (pa_cons (ic 2 (by decide) rfl rfl) pa_nil)))))
      (pss_cons (ps_set (i := 1) nd rfl (Or.inl rfl) (pe_op op_cat (pv 1) (pe_lst (pa_cons (ic 3 (by decide) rfl rfl) (pa_cons (ic 4 (by decide) rfl rfl) pa_nil)))))
      (pss_cons (ps_set (i := 1) nd rfl (Or.inl rfl) (pe_op op_cat (pv 1) (pe_lst (pa_cons (ic 5 (by decide) rfl rfl) (pa_cons (ic 6 (by decide) rfl rfl) pa_nil)))))
      (pss_cons (ps_set (i := 1) nd rfl (Or.inl rfl) (pe_op op_cat (pv 1) (pe_lst (pa_cons (ic 7 (by decide) rfl rfl) (pa_cons (ic 8 (by decide) rfl rfl) pa_nil)))))
      (pss_cons (ps_set (i := 1) nd rfl (Or.inl rfl) (pe_op op_cat (pv 1) (pe_lst (pa_cons (ic 9 (by decide) rfl rfl) (pa_cons (ic 10 (by decide) rfl rfl) (pa_cons (ic 11 (by decide) rfl rfl) pa_nil))))))
      (pss_cons (ps_set (i := 1) nd rfl (Or.inl rfl) (pe_op op_cat (pv 1) (pe_lst (pa_cons (ic 12 (by decide) rfl rfl) (pa_cons (ic 13 (by decide) rfl rfl) (pa_cons (ic 14 (by decide) rfl rfl) pa_nil))))))
      (pss_cons (ps_set (i := 1) nd rfl (Or.inl rfl) (pe_op op_cat (pv 1) (pe_lst (pa_cons (ic 15 (by decide) rfl rfl) (pa_cons (ic 16 (by decide) rfl rfl) pa_nil)))))
      (pss_cons (ps_set (i := 2) nd rfl (Or.inl rfl) (pe_lst (pa_cons (id' 0 (by decide) rfl rfl) (pa_cons (id' 1 (by decide) rfl rfl) (pa_cons (id' 2 (by decide) rfl rfl) pa_nil)))))
      (pss_cons (ps_set (i := 3) nd rfl (Or.inl rfl) (pe_lst (pa_cons (isB (t := "ValueError") T T.vE (by decide +kernel) rfl (Or.inl rfl) rfl rfl) (pa_cons (isB (t := "LookupError") T T.lE (by decide +kernel) rfl (Or.inl rfl) rfl rfl) (pa_cons (isB (t := "ArithmeticError") T T.aE (by decide +kernel) rfl (Or.inl rfl) rfl rfl) pa_nil)))))
      (pss_cons (ps_if (PW.pt (pw_or (pt_cmpR op_ne (pe_bm PySem.F.plainAttrs_list PySem.F.slot_list_count PySem.F.type_list_count mt_lcountF (pv 1) (pa_cons pe_bl pa_nil)) pe_int (nomark _)) (pw_or1 (pt_cmpR (op_neD hr.units) (pv 3) (pv 2) (nomark _))))) (pss_one (ps_ret (pe_un un_neg pe_int))) pss_nil)
      (pss_cons (ps_set (i := 4) nd rfl (Or.inl rfl) (pe_bm PySem.F.plainAttrs_list PySem.F.slot_list_index PySem.F.type_list_index mt_index (pv 1) (pa_cons pe_bl pa_nil)))
      (pss_one (ps_ret (pe_ifExp (pt_cmpR (op_eqD hr.units) (pv 2) (pe_lst (pa_cons (pe_cmpR op_lt (pv 4) pe_int (nomark _)) (pa_cons (pe_chain op_lt op_lt pe_int (pv 4) pe_int) (pa_cons (pe_cmpR op_gt (pv 4) pe_int (nomark _)) pa_nil)))) (nomark _)) (pv 4) (pe_un un_neg pe_int)))))))))))))), ?_⟩
    -- InvalidNumber, InvalidName, InvalidRule
    refine ⟨_, rfl, ⟨a, C i, _, _, _, rfl, hx, T.ex i hi, .own _, T.tab i 0 hi (by decide), _, rfl, ⟨a, C i, _, _, _, rfl, hx, T.ex i hi, .own _, T.tab i 1 hi (by decide), _, rfl, ⟨a, C i, _, _, _, rfl, hx, T.ex i hi, .own _, T.tab i 2 hi (by decide), by show 3 ≤ sizeLine; decide, fun l0 n0 => ?_⟩⟩⟩⟩
    have s0 : Same H (upd H l0 (.lst [.bl (decide (0 = i)), .bl (decide (1 = i)), .bl (decide (2 = i))])) := sameUp (Same.refl H) n0
    generalize hH0 : upd H l0 (.lst [.bl (decide (0 = i)), .bl (decide (1 = i)), .bl (decide (2 = i))]) = H0 at s0
    have q0 : H0 l0 = some (.lst [.bl (decide (0 = i)), .bl (decide (1 = i)), .bl (decide (2 = i))]) := by rw [← hH0, upd_same]
    have x0 := hx.same s0
    refine ⟨_, rfl, ⟨_, rfl, ⟨a, C i, _, _, _, rfl, x0, T.ex i hi, .own _, T.tab i 3 hi (by decide), _, rfl, ⟨a, C i, _, _, _, rfl, x0, T.ex i hi, .own _, T.tab i 4 hi (by decide), by show 2 ≤ sizeLine; decide, fun m1 n1 => catAns s0 q0 n1 (by show 5 ≤ 100; decide) fun l1 H1 s1 q1 => ?_⟩⟩⟩⟩
    have x1 := hx.same s1
    refine ⟨_, rfl, ⟨_, rfl, ⟨a, C i, _, _, _, rfl, x1, T.ex i hi, .own _, T.tab i 5 hi (by decide), _, rfl, ⟨a, C i, _, _, _, rfl, x1, T.ex i hi, .own _, T.tab i 6 hi (by decide), by show 2 ≤ sizeLine; decide, fun m2 n2 => catAns s1 q1 n2 (by show 7 ≤ 100; decide) fun l2 H2 s2 q2 => ?_⟩⟩⟩⟩
    have x2 := hx.same s2
    refine ⟨_, rfl, ⟨_, rfl, ⟨a, C i, _, _, _, rfl, x2, T.ex i hi, .own _, T.tab i 7 hi (by decide), _, rfl, ⟨a, C i, _, _, _, rfl, x2, T.ex i hi, .own _, T.tab i 8 hi (by decide), by show 2 ≤ sizeLine; decide, fun m3 n3 => catAns s2 q2 n3 (by show 9 ≤ 100; decide) fun l3 H3 s3 q3 => ?_⟩⟩⟩⟩
    have x3 := hx.same s3
    refine ⟨_, rfl, ⟨_, rfl, ⟨a, C i, _, _, _, rfl, x3, T.ex i hi, .own _, T.tab i 9 hi (by decide), _, rfl, ⟨a, C i, _, _, _, rfl, x3, T.ex i hi, .own _, T.tab i 10 hi (by decide), _, rfl, ⟨a, C i, _, _, _, rfl, x3, T.ex i hi, .own _, T.tab i 11 hi (by decide), by show 3 ≤ sizeLine; decide, fun m4 n4 => catAns s3 q3 n4 (by show 12 ≤ 100; decide) fun l4 H4 s4 q4 => ?_⟩⟩⟩⟩⟩
    have x4 := hx.same s4
    refine ⟨_, rfl, ⟨_, rfl, ⟨a, C i, _, _, _, rfl, x4, T.ex i hi, .own _, T.tab i 12 hi (by decide), _, rfl, ⟨a, C i, _, _, _, rfl, x4, T.ex i hi, .own _, T.tab i 13 hi (by decide), _, rfl, ⟨a, C i, _, _, _, rfl, x4, T.ex i hi, .own _, T.tab i 14 hi (by decide), by show 3 ≤ sizeLine; decide, fun m5 n5 => catAns s4 q4 n5 (by show 15 ≤ 100; decide) fun l5 H5 s5 q5 => ?_⟩⟩⟩⟩⟩
    have x5 := hx.same s5
    refine ⟨_, rfl, ⟨_, rfl, ⟨a, C i, _, _, _, rfl, x5, T.ex i hi, .own _, T.tab i 15 hi (by decide), _, rfl, ⟨a, C i, _, _, _, rfl, x5, T.ex i hi, .own _, T.tab i 16 hi (by decide), by show 2 ≤ sizeLine; decide, fun m6 n6 => catAns s5 q5 n6 (by show 17 ≤ 100; decide) fun l6 H6 s6 q6 => ?_⟩⟩⟩⟩
    have x6 := hx.same s6
    have q6' : H6 l6 = some (.lst ((sorts i).map V.bl)) := q6
    -- the bases
    refine ⟨_, rfl, ⟨a, C i, _, _, _, rfl, x6, T.ex i hi, .own _, T.tabD i 0 hi (by decide), _, rfl, ⟨a, C i, _, _, _, rfl, x6, T.ex i hi, .own _, T.tabD i 1 hi (by decide), _, rfl, ⟨a, C i, _, _, _, rfl, x6, T.ex i hi, .own _, T.tabD i 2 hi (by decide), by show 3 ≤ sizeLine; decide, fun b0 nb0 => ?_⟩⟩⟩⟩
    have s7 := sameUp (o := .lst ((bases i).map V.bl)) s6 nb0
    have x7 := hx.same s7
    have q7 : (upd H6 b0 (.lst ((bases i).map V.bl))) l6 = some (.lst ((sorts i).map V.bl)) := by rw [upd_ne (ne_of_none q6' nb0)]; exact q6'
    have p7 : (upd H6 b0 (.lst ((bases i).map V.bl))) b0 = some (.lst ((bases i).map V.bl)) := upd_same
    show tSeq _ _ _ _ (upd H6 b0 (.lst ((bases i).map V.bl)))
    generalize upd H6 b0 (.lst ((bases i).map V.bl)) = H7 at s7 x7 q7 p7 ⊢
    refine ⟨_, rfl, ⟨a, C i, _, _, _, rfl, x7, T.ex i hi, .ty _, T.tabB i 0 hi (by decide), _, rfl, ⟨a, C i, _, _, _, rfl, x7, T.ex i hi, .ty _, T.tabB i 1 hi (by decide), _, rfl, ⟨a, C i, _, _, _, rfl, x7, T.ex i hi, .ty _, T.tabB i 2 hi (by decide), by show 3 ≤ sizeLine; decide, fun b1 nb1 => ?_⟩⟩⟩⟩
    have s8 := sameUp (o := .lst ((bases i).map V.bl)) s7 nb1
    have q8 : (upd H7 b1 (.lst ((bases i).map V.bl))) l6 = some (.lst ((sorts i).map V.bl)) := by rw [upd_ne (ne_of_none q7 nb1)]; exact q7
    have p8 : (upd H7 b1 (.lst ((bases i).map V.bl))) b0 = some (.lst ((bases i).map V.bl)) := by rw [upd_ne (ne_of_none p7 nb1)]; exact p7
    have r8 : (upd H7 b1 (.lst ((bases i).map V.bl))) b1 = some (.lst ((bases i).map V.bl)) := upd_same
    show tSeq _ _ _ _ (upd H7 b1 (.lst ((bases i).map V.bl)))
    generalize upd H7 b1 (.lst ((bases i).map V.bl)) = H8 at s8 q8 p8 r8 ⊢
    obtain ⟨c1, c2, c3, c4⟩ := sorts_all i hi
    have fl : ((sorts i).map V.bl).all flatV = true := List.all_eq_true.mpr fun z hz => by
      obtain ⟨b, _, rfl⟩ := List.mem_map.mp hz
      rfl
    -- the count, the bases
    refine ⟨_, rfl, .inl ⟨rfl, _, SqL.of q8⟩, l6, _, _, rfl, rfl, SqL.of q8, rfl, fl, rfl, _, rfl, ?_⟩
    show (if (!decide (V.int (((((sorts i).map V.bl).countP fun z => eqV z (V.bl true)) : Nat) : Int) = V.int 1)) = true then _ else _)
    rw [c2]
    refine iteF ?_
    refine ⟨_, rfl, _, rfl, _, _, dp3 r8, dp3 p8, shaped3 _ _ _, shaped3 _ _ _, _, rfl, ?_⟩
    rw [eqv3]
    refine iteF ?_
    -- the index
    refine ⟨_, rfl, .inl ⟨rfl, _, SqL.of q8⟩, l6, _, _, i, _, rfl, rfl, SqL.of q8, rfl, fl, c3, rfl, fun m z' hm hz' => c4 m hm z' hz', ?_⟩
    have eb := bases_all i hi
    refine ⟨_, rfl, _, rfl, _, _, rfl, rfl, _, rfl, _, _, rfl, rfl, _, rfl, ite2 (fun h8 => ⟨_, _, rfl, rfl, ?_⟩) (fun h8 => ?_)⟩
    · rw [h8, Bool.true_and] at eb
      refine ⟨_, rfl, _, _, rfl, rfl, by show 3 ≤ sizeLine; decide, fun c nc => ?_⟩
      have p9 := p8
      rw [eb] at p9
      refine ⟨_, _, dp3 (by rw [upd_ne (ne_of_none p8 nc)]; exact p9), dp3 upd_same, shaped3 _ _ _, shaped3 _ _ _, _, rfl, ?_⟩
      rw [eqv3]
      exact iteT ⟨_, rfl, k _ (sameUp s8 nc)⟩
    · have h8' : decide ((8 : Int) < (i : Int)) = false := by
        cases q : decide ((8 : Int) < (i : Int)) with
        | true => exact (h8 q).elim
        | false => rfl
      rw [h8', Bool.false_and] at eb
      refine ⟨_, rfl, _, _, rfl, rfl, by show 3 ≤ sizeLine; decide, fun c nc => ?_⟩
      have p9 := p8
      rw [eb] at p9
      refine ⟨_, _, dp3 (by rw [upd_ne (ne_of_none p8 nc)]; exact p9), dp3 upd_same, shaped3 _ _ _, shaped3 _ _ _, _, rfl, ?_⟩
      rw [eqv3]
      exact iteT ⟨_, rfl, k _ (sameUp s8 nc)⟩
end
end L2.EK

namespace L2.EK
open PySem PySem.Spec PyProof.Rows
def bm (k : Nat) : List Value := (["ValueError", "LookupError", "ArithmeticError"].map fun n => [Value.type n, .type "Exception", .type "BaseException", .type "object"]).getD k []
def newId (k : Nat) : String := ["ValueError.__new__", "LookupError.__new__", "ArithmeticError.__new__"].getD k ""
def initId (k : Nat) : String := ["ValueError.__init__", "LookupError.__init__", "ArithmeticError.__init__"].getD k ""
def fname (i : Nat) : Str := (["number", "name", "index", "index", "index", "index", "text", "command", "value", "name", "index", "number", "", "", "index", "", ""] : List Str).getD i ""
def hasF (i : Nat) : Bool := !([12, 13, 15, 16].contains i)
/-- the bases, whose __init__ is the built-in's -/
structure Dk (K : PySem.W.Frag) (mg : Str → Option Value) (D : Addr) (k : Nat) : Prop where
  mg : mg (dname k) = some (.ref D)
  sp : PySem.W.specialIn K (.ref D) "__getattribute__" = some (some (.builtin "type.__getattribute__"))
  tm : PySem.W.typeIn K (.ref D) = some (.type "type")
  rd : PySem.W.readsIn K D (.type "type") = true
  vV : PySem.W.findCls K (.ref D) (.type "type") "__init__" = some (.val (.builtin (initId k)))
section
variable {P : Program} {w : World} {K : PySem.W.Frag} {mg : Str → Option Value} {base : Heap} {C D : Addr}
theorem sc_InvalidNumber : FnScope ["self", "number"] ["self", "number"] (defScope (inClass (topS 2) 0)) := ⟨rfl, rfl, rfl, by decide +kernel, rfl, by decide +kernel, by decide +kernel⟩
theorem ok_InvalidNumber {f : Addr} {fd : FuncData} (F : Fun K "__init__" "InvalidNumber.__init__" (inClass (topS 2) 0) f fd) (B : Dk K mg D 0) (T : EC K C (bm 0) (newId 0)) (ht : PySem.W.takerIn K C "number" = some none) : FnOk P w K mg base CX0 1 f fd ["self", "number"] (spEI C "number") := by
  refine F.ok sc_InvalidNumber (fun vs H Q E h => ?_) (fun cdv A outer s H vs Q E hr h => ?_)
  · obtain ⟨a, y, rfl, _⟩ := h
    rfl
  · obtain ⟨a, y, rfl, ha, k⟩ := h
    refine ⟨_, pss_cons (ps_expr (pe_oin (bmB := bm 0) (newId := newId 0) PySem.F.excBase_ValueError rfl B.mg B.sp B.tm B.rd B.vV (pa_cons (pv 0) (pa_cons pe_str pa_nil)) (by decide +kernel)))
      (pss_one (ps_ostG (bmB := bm 0) (newId := newId 0) PySem.F.store_ValueError (pv 0) (pv 1))), ?_⟩
    exact ⟨_, rfl, a, C, _, rfl, by show 1 ≤ 1000; decide, T, ha, _, rfl, _, rfl, a, C, rfl, T, ht, ha, fun dx nd ne => k dx nd ne⟩
theorem sc_InvalidName : FnScope ["self", "name"] ["self", "name"] (defScope (inClass (topS 3) 0)) := ⟨rfl, rfl, rfl, by decide +kernel, rfl, by decide +kernel, by decide +kernel⟩
theorem ok_InvalidName {f : Addr} {fd : FuncData} (F : Fun K "__init__" "InvalidName.__init__" (inClass (topS 3) 0) f fd) (B : Dk K mg D 0) (T : EC K C (bm 0) (newId 0)) (ht : PySem.W.takerIn K C "name" = some none) : FnOk P w K mg base CX0 1 f fd ["self", "name"] (spEI C "name") := by
  refine F.ok sc_InvalidName (fun vs H Q E h => ?_) (fun cdv A outer s H vs Q E hr h => ?_)
  · obtain ⟨a, y, rfl, _⟩ := h
    rfl
  · obtain ⟨a, y, rfl, ha, k⟩ := h
    refine ⟨_, pss_cons (ps_expr (pe_oin (bmB := bm 0) (newId := newId 0) PySem.F.excBase_ValueError rfl B.mg B.sp B.tm B.rd B.vV (pa_cons (pv 0) (pa_cons pe_str pa_nil)) (by decide +kernel)))
      (pss_one (ps_ostG (bmB := bm 0) (newId := newId 0) PySem.F.store_ValueError (pv 0) (pv 1))), ?_⟩
    exact ⟨_, rfl, a, C, _, rfl, by show 1 ≤ 1000; decide, T, ha, _, rfl, _, rfl, a, C, rfl, T, ht, ha, fun dx nd ne => k dx nd ne⟩
theorem sc_InvalidRule : FnScope ["self", "index"] ["self", "index"] (defScope (inClass (topS 4) 0)) := ⟨rfl, rfl, rfl, by decide +kernel, rfl, by decide +kernel, by decide +kernel⟩
theorem ok_InvalidRule {f : Addr} {fd : FuncData} (F : Fun K "__init__" "InvalidRule.__init__" (inClass (topS 4) 0) f fd) (B : Dk K mg D 0) (T : EC K C (bm 0) (newId 0)) (ht : PySem.W.takerIn K C "index" = some none) : FnOk P w K mg base CX0 1 f fd ["self", "index"] (spEI C "index") := by
  refine F.ok sc_InvalidRule (fun vs H Q E h => ?_) (fun cdv A outer s H vs Q E hr h => ?_)
  · obtain ⟨a, y, rfl, _⟩ := h
    rfl
  · obtain ⟨a, y, rfl, ha, k⟩ := h
    refine ⟨_, pss_cons (ps_expr (pe_oin (bmB := bm 0) (newId := newId 0) PySem.F.excBase_ValueError rfl B.mg B.sp B.tm B.rd B.vV (pa_cons (pv 0) (pa_cons pe_str pa_nil)) (by decide +kernel)))
      (pss_one (ps_ostG (bmB := bm 0) (newId := newId 0) PySem.F.store_ValueError (pv 0) (pv 1))), ?_⟩
    exact ⟨_, rfl, a, C, _, rfl, by show 1 ≤ 1000; decide, T, ha, _, rfl, _, rfl, a, C, rfl, T, ht, ha, fun dx nd ne => k dx nd ne⟩
theorem sc_NotFitting : FnScope ["self", "index"] ["self", "index"] (defScope (inClass (topS 5) 0)) := ⟨rfl, rfl, rfl, by decide +kernel, rfl, by decide +kernel, by decide +kernel⟩
theorem ok_NotFitting {f : Addr} {fd : FuncData} (F : Fun K "__init__" "NotFitting.__init__" (inClass (topS 5) 0) f fd) (B : Dk K mg D 0) (T : EC K C (bm 0) (newId 0)) (ht : PySem.W.takerIn K C "index" = some none) : FnOk P w K mg base CX0 1 f fd ["self", "index"] (spEI C "index") := by
  refine F.ok sc_NotFitting (fun vs H Q E h => ?_) (fun cdv A outer s H vs Q E hr h => ?_)
  · obtain ⟨a, y, rfl, _⟩ := h
    rfl
  · obtain ⟨a, y, rfl, ha, k⟩ := h
    refine ⟨_, pss_cons (ps_expr (pe_oin (bmB := bm 0) (newId := newId 0) PySem.F.excBase_ValueError rfl B.mg B.sp B.tm B.rd B.vV (pa_cons (pv 0) (pa_cons pe_str pa_nil)) (by decide +kernel)))
      (pss_one (ps_ostG (bmB := bm 0) (newId := newId 0) PySem.F.store_ValueError (pv 0) (pv 1))), ?_⟩
    exact ⟨_, rfl, a, C, _, rfl, by show 1 ≤ 1000; decide, T, ha, _, rfl, _, rfl, a, C, rfl, T, ht, ha, fun dx nd ne => k dx nd ne⟩
theorem sc_InvalidValues : FnScope ["self", "index"] ["self", "index"] (defScope (inClass (topS 6) 0)) := ⟨rfl, rfl, rfl, by decide +kernel, rfl, by decide +kernel, by decide +kernel⟩
theorem ok_InvalidValues {f : Addr} {fd : FuncData} (F : Fun K "__init__" "InvalidValues.__init__" (inClass (topS 6) 0) f fd) (B : Dk K mg D 0) (T : EC K C (bm 0) (newId 0)) (ht : PySem.W.takerIn K C "index" = some none) : FnOk P w K mg base CX0 1 f fd ["self", "index"] (spEI C "index") := by
  refine F.ok sc_InvalidValues (fun vs H Q E h => ?_) (fun cdv A outer s H vs Q E hr h => ?_)
  · obtain ⟨a, y, rfl, _⟩ := h
    rfl
  · obtain ⟨a, y, rfl, ha, k⟩ := h
    refine ⟨_, pss_cons (ps_expr (pe_oin (bmB := bm 0) (newId := newId 0) PySem.F.excBase_ValueError rfl B.mg B.sp B.tm B.rd B.vV (pa_cons (pv 0) (pa_cons pe_str pa_nil)) (by decide +kernel)))
      (pss_one (ps_ostG (bmB := bm 0) (newId := newId 0) PySem.F.store_ValueError (pv 0) (pv 1))), ?_⟩
    exact ⟨_, rfl, a, C, _, rfl, by show 1 ≤ 1000; decide, T, ha, _, rfl, _, rfl, a, C, rfl, T, ht, ha, fun dx nd ne => k dx nd ne⟩
theorem sc_InvalidDeeds : FnScope ["self", "index"] ["self", "index"] (defScope (inClass (topS 7) 0)) := ⟨rfl, rfl, rfl, by decide +kernel, rfl, by decide +kernel, by decide +kernel⟩
theorem ok_InvalidDeeds {f : Addr} {fd : FuncData} (F : Fun K "__init__" "InvalidDeeds.__init__" (inClass (topS 7) 0) f fd) (B : Dk K mg D 0) (T : EC K C (bm 0) (newId 0)) (ht : PySem.W.takerIn K C "index" = some none) : FnOk P w K mg base CX0 1 f fd ["self", "index"] (spEI C "index") := by
  refine F.ok sc_InvalidDeeds (fun vs H Q E h => ?_) (fun cdv A outer s H vs Q E hr h => ?_)
  · obtain ⟨a, y, rfl, _⟩ := h
    rfl
  · obtain ⟨a, y, rfl, ha, k⟩ := h
    refine ⟨_, pss_cons (ps_expr (pe_oin (bmB := bm 0) (newId := newId 0) PySem.F.excBase_ValueError rfl B.mg B.sp B.tm B.rd B.vV (pa_cons (pv 0) (pa_cons pe_str pa_nil)) (by decide +kernel)))
      (pss_one (ps_ostG (bmB := bm 0) (newId := newId 0) PySem.F.store_ValueError (pv 0) (pv 1))), ?_⟩
    exact ⟨_, rfl, a, C, _, rfl, by show 1 ≤ 1000; decide, T, ha, _, rfl, _, rfl, a, C, rfl, T, ht, ha, fun dx nd ne => k dx nd ne⟩
theorem sc_InvalidText : FnScope ["self", "text"] ["self", "text"] (defScope (inClass (topS 8) 0)) := ⟨rfl, rfl, rfl, by decide +kernel, rfl, by decide +kernel, by decide +kernel⟩
theorem ok_InvalidText {f : Addr} {fd : FuncData} (F : Fun K "__init__" "InvalidText.__init__" (inClass (topS 8) 0) f fd) (B : Dk K mg D 0) (T : EC K C (bm 0) (newId 0)) (ht : PySem.W.takerIn K C "text" = some none) : FnOk P w K mg base CX0 1 f fd ["self", "text"] (spEI C "text") := by
  refine F.ok sc_InvalidText (fun vs H Q E h => ?_) (fun cdv A outer s H vs Q E hr h => ?_)
  · obtain ⟨a, y, rfl, _⟩ := h
    rfl
  · obtain ⟨a, y, rfl, ha, k⟩ := h
    refine ⟨_, pss_cons (ps_expr (pe_oin (bmB := bm 0) (newId := newId 0) PySem.F.excBase_ValueError rfl B.mg B.sp B.tm B.rd B.vV (pa_cons (pv 0) (pa_cons pe_str pa_nil)) (by decide +kernel)))
      (pss_one (ps_ostG (bmB := bm 0) (newId := newId 0) PySem.F.store_ValueError (pv 0) (pv 1))), ?_⟩
    exact ⟨_, rfl, a, C, _, rfl, by show 1 ≤ 1000; decide, T, ha, _, rfl, _, rfl, a, C, rfl, T, ht, ha, fun dx nd ne => k dx nd ne⟩
theorem sc_InvalidCommand : FnScope ["self", "command"] ["self", "command"] (defScope (inClass (topS 9) 0)) := ⟨rfl, rfl, rfl, by decide +kernel, rfl, by decide +kernel, by decide +kernel⟩
theorem ok_InvalidCommand {f : Addr} {fd : FuncData} (F : Fun K "__init__" "InvalidCommand.__init__" (inClass (topS 9) 0) f fd) (B : Dk K mg D 0) (T : EC K C (bm 0) (newId 0)) (ht : PySem.W.takerIn K C "command" = some none) : FnOk P w K mg base CX0 1 f fd ["self", "command"] (spEI C "command") := by
  refine F.ok sc_InvalidCommand (fun vs H Q E h => ?_) (fun cdv A outer s H vs Q E hr h => ?_)
  · obtain ⟨a, y, rfl, _⟩ := h
    rfl
  · obtain ⟨a, y, rfl, ha, k⟩ := h
    refine ⟨_, pss_cons (ps_expr (pe_oin (bmB := bm 0) (newId := newId 0) PySem.F.excBase_ValueError rfl B.mg B.sp B.tm B.rd B.vV (pa_cons (pv 0) (pa_cons pe_str pa_nil)) (by decide +kernel)))
      (pss_one (ps_ostG (bmB := bm 0) (newId := newId 0) PySem.F.store_ValueError (pv 0) (pv 1))), ?_⟩
    exact ⟨_, rfl, a, C, _, rfl, by show 1 ≤ 1000; decide, T, ha, _, rfl, _, rfl, a, C, rfl, T, ht, ha, fun dx nd ne => k dx nd ne⟩
theorem sc_NotAFunction : FnScope ["self", "value"] ["self", "value"] (defScope (inClass (topS 10) 0)) := ⟨rfl, rfl, rfl, by decide +kernel, rfl, by decide +kernel, by decide +kernel⟩
theorem ok_NotAFunction {f : Addr} {fd : FuncData} (F : Fun K "__init__" "NotAFunction.__init__" (inClass (topS 10) 0) f fd) (B : Dk K mg D 0) (T : EC K C (bm 0) (newId 0)) (ht : PySem.W.takerIn K C "value" = some none) : FnOk P w K mg base CX0 1 f fd ["self", "value"] (spEI C "value") := by
  refine F.ok sc_NotAFunction (fun vs H Q E h => ?_) (fun cdv A outer s H vs Q E hr h => ?_)
  · obtain ⟨a, y, rfl, _⟩ := h
    rfl
  · obtain ⟨a, y, rfl, ha, k⟩ := h
    refine ⟨_, pss_cons (ps_expr (pe_oin (bmB := bm 0) (newId := newId 0) PySem.F.excBase_ValueError rfl B.mg B.sp B.tm B.rd B.vV (pa_cons (pv 0) (pa_cons pe_str pa_nil)) (by decide +kernel)))
      (pss_one (ps_ostG (bmB := bm 0) (newId := newId 0) PySem.F.store_ValueError (pv 0) (pv 1))), ?_⟩
    exact ⟨_, rfl, a, C, _, rfl, by show 1 ≤ 1000; decide, T, ha, _, rfl, _, rfl, a, C, rfl, T, ht, ha, fun dx nd ne => k dx nd ne⟩
theorem sc_UnknownName : FnScope ["self", "name"] ["self", "name"] (defScope (inClass (topS 12) 0)) := ⟨rfl, rfl, rfl, by decide +kernel, rfl, by decide +kernel, by decide +kernel⟩
theorem ok_UnknownName {f : Addr} {fd : FuncData} (F : Fun K "__init__" "UnknownName.__init__" (inClass (topS 12) 0) f fd) (B : Dk K mg D 1) (T : EC K C (bm 1) (newId 1)) (ht : PySem.W.takerIn K C "name" = some none) : FnOk P w K mg base CX0 1 f fd ["self", "name"] (spEI C "name") := by
  refine F.ok sc_UnknownName (fun vs H Q E h => ?_) (fun cdv A outer s H vs Q E hr h => ?_)
  · obtain ⟨a, y, rfl, _⟩ := h
    rfl
  · obtain ⟨a, y, rfl, ha, k⟩ := h
    refine ⟨_, pss_cons (ps_expr (pe_oin (bmB := bm 1) (newId := newId 1) PySem.F.excBase_LookupError rfl B.mg B.sp B.tm B.rd B.vV (pa_cons (pv 0) (pa_cons pe_str pa_nil)) (by decide +kernel)))
      (pss_one (ps_ostG (bmB := bm 1) (newId := newId 1) PySem.F.store_LookupError (pv 0) (pv 1))), ?_⟩
    exact ⟨_, rfl, a, C, _, rfl, by show 1 ≤ 1000; decide, T, ha, _, rfl, _, rfl, a, C, rfl, T, ht, ha, fun dx nd ne => k dx nd ne⟩
theorem sc_Refused : FnScope ["self", "index"] ["self", "index"] (defScope (inClass (topS 13) 0)) := ⟨rfl, rfl, rfl, by decide +kernel, rfl, by decide +kernel, by decide +kernel⟩
theorem ok_Refused {f : Addr} {fd : FuncData} (F : Fun K "__init__" "Refused.__init__" (inClass (topS 13) 0) f fd) (B : Dk K mg D 1) (T : EC K C (bm 1) (newId 1)) (ht : PySem.W.takerIn K C "index" = some none) : FnOk P w K mg base CX0 1 f fd ["self", "index"] (spEI C "index") := by
  refine F.ok sc_Refused (fun vs H Q E h => ?_) (fun cdv A outer s H vs Q E hr h => ?_)
  · obtain ⟨a, y, rfl, _⟩ := h
    rfl
  · obtain ⟨a, y, rfl, ha, k⟩ := h
    refine ⟨_, pss_cons (ps_expr (pe_oin (bmB := bm 1) (newId := newId 1) PySem.F.excBase_LookupError rfl B.mg B.sp B.tm B.rd B.vV (pa_cons (pv 0) (pa_cons pe_str pa_nil)) (by decide +kernel)))
      (pss_one (ps_ostG (bmB := bm 1) (newId := newId 1) PySem.F.store_LookupError (pv 0) (pv 1))), ?_⟩
    exact ⟨_, rfl, a, C, _, rfl, by show 1 ≤ 1000; decide, T, ha, _, rfl, _, rfl, a, C, rfl, T, ht, ha, fun dx nd ne => k dx nd ne⟩
theorem sc_Parted : FnScope ["self", "number"] ["self", "number"] (defScope (inClass (topS 14) 0)) := ⟨rfl, rfl, rfl, by decide +kernel, rfl, by decide +kernel, by decide +kernel⟩
theorem ok_Parted {f : Addr} {fd : FuncData} (F : Fun K "__init__" "Parted.__init__" (inClass (topS 14) 0) f fd) (B : Dk K mg D 1) (T : EC K C (bm 1) (newId 1)) (ht : PySem.W.takerIn K C "number" = some none) : FnOk P w K mg base CX0 1 f fd ["self", "number"] (spEI C "number") := by
  refine F.ok sc_Parted (fun vs H Q E h => ?_) (fun cdv A outer s H vs Q E hr h => ?_)
  · obtain ⟨a, y, rfl, _⟩ := h
    rfl
  · obtain ⟨a, y, rfl, ha, k⟩ := h
    refine ⟨_, pss_cons (ps_expr (pe_oin (bmB := bm 1) (newId := newId 1) PySem.F.excBase_LookupError rfl B.mg B.sp B.tm B.rd B.vV (pa_cons (pv 0) (pa_cons pe_str pa_nil)) (by decide +kernel)))
      (pss_one (ps_ostG (bmB := bm 1) (newId := newId 1) PySem.F.store_LookupError (pv 0) (pv 1))), ?_⟩
    exact ⟨_, rfl, a, C, _, rfl, by show 1 ≤ 1000; decide, T, ha, _, rfl, _, rfl, a, C, rfl, T, ht, ha, fun dx nd ne => k dx nd ne⟩
theorem sc_NoMember : FnScope ["self", "index"] ["self", "index"] (defScope (inClass (topS 17) 0)) := ⟨rfl, rfl, rfl, by decide +kernel, rfl, by decide +kernel, by decide +kernel⟩
theorem ok_NoMember {f : Addr} {fd : FuncData} (F : Fun K "__init__" "NoMember.__init__" (inClass (topS 17) 0) f fd) (B : Dk K mg D 1) (T : EC K C (bm 1) (newId 1)) (ht : PySem.W.takerIn K C "index" = some none) : FnOk P w K mg base CX0 1 f fd ["self", "index"] (spEI C "index") := by
  refine F.ok sc_NoMember (fun vs H Q E h => ?_) (fun cdv A outer s H vs Q E hr h => ?_)
  · obtain ⟨a, y, rfl, _⟩ := h
    rfl
  · obtain ⟨a, y, rfl, ha, k⟩ := h
    refine ⟨_, pss_cons (ps_expr (pe_oin (bmB := bm 1) (newId := newId 1) PySem.F.excBase_LookupError rfl B.mg B.sp B.tm B.rd B.vV (pa_cons (pv 0) (pa_cons pe_str pa_nil)) (by decide +kernel)))
      (pss_one (ps_ostG (bmB := bm 1) (newId := newId 1) PySem.F.store_LookupError (pv 0) (pv 1))), ?_⟩
    exact ⟨_, rfl, a, C, _, rfl, by show 1 ≤ 1000; decide, T, ha, _, rfl, _, rfl, a, C, rfl, T, ht, ha, fun dx nd ne => k dx nd ne⟩
end
end L2.EK

namespace L2.EK
open PySem PySem.Spec PyProof.Rows
/-- one class with a field, one without -/
structure Mk1 (P : Program) (w : World) (K : PySem.W.Frag) (mg : Str → Option Value) (base : Heap) (C fI : Addr) (fd : FuncData) (x f : Str) (k : Nat) : Prop where
  gC : mg x = some (.ref C)
  T : EC K C (bm k) (newId k)
  iC : PySem.W.findIn K (.ref C) "__init__" = some (some (.ref fI))
  tI : PySem.W.typeIn K (.ref fI) = some (.type "function")
  F1 : FnOk P w K mg base CX0 1 fI fd ["self", f] (spEI C f)
  b : Binds K fd ["self", f] []
  bk : ∀ (s : Shared) (u1 u2 : Value), BindsTo s fd ⟨[u1], [(f, u2)]⟩ [("self", u1), (f, u2)]
structure Mk0 (K : PySem.W.Frag) (mg : Str → Option Value) (C : Addr) (x : Str) (k : Nat) : Prop where
  gC : mg x = some (.ref C)
  q : PySem.W.excIn K C (bm k) (newId k) = true
  kC : PySem.W.keepIn K (.ref C) = true
structure Mks (P : Program) (w : World) (K : PySem.W.Frag) (mg : Str → Option Value) (base : Heap) (C fI : Nat → Addr) (fd : Nat → FuncData) : Prop where
  one : ∀ i, i < 17 → hasF i = true → Mk1 P w K mg base (C i) (fI i) (fd i) (cname i) (fname i) (grp i)
  non : ∀ i, i < 17 → hasF i = false → Mk0 K mg (C i) (cname i) (grp i)

/-- an exception of the i-th class, with its field -/
structure XV (C : Nat → Addr) (v : V) (H : Hp) (e : Addr) (i : Nat) : Prop where
  at_ : XAt H e (C i)
  fld : hasF i = true → ∃ dx, H e = some (XO (C i) (some dx) e) ∧ H dx = some (exd dx [(fname i, v)])
theorem XV.same {C : Nat → Addr} {v : V} {H H' : Hp} {e : Addr} {i : Nat} (x : XV C v H e i) (s : Same H H') : XV C v H' e i :=
  ⟨x.at_.same s, fun h => let ⟨dx, a, b⟩ := x.fld h; ⟨dx, s _ _ a, s _ _ b⟩⟩
def Made (C : Nat → Addr) (v : V) (H : Hp) (es : List V) : Prop := ∀ (j : Nat) (x : V), es[j]? = some x → ∃ e, x = .ref e ∧ XV C v H e j
theorem made_nil {C : Nat → Addr} {v : V} {H : Hp} : Made C v H [] := fun j x h => by simp at h
theorem made_same {C : Nat → Addr} {v : V} {H H' : Hp} {es : List V} (m : Made C v H es) (s : Same H H') : Made C v H' es := fun j x h => let ⟨e, a, b⟩ := m j x h; ⟨e, a, b.same s⟩
theorem made_snoc {C : Nat → Addr} {v : V} {H : Hp} {es : List V} {e : Addr} (m : Made C v H es) (h : XV C v H e es.length) : Made C v H (es ++ [.ref e]) := fun j x hj => by
  by_cases q : j < es.length
  · rw [List.getElem?_append_left q] at hj
    exact m j x hj
  · rw [List.getElem?_append_right (by omega)] at hj
    have z : j - es.length = 0 := by
      cases y : j - es.length with
      | zero => rfl
      | succ n => rw [y] at hj; simp at hj
    have ej : j = es.length := by omega
    rw [z] at hj
    cases hj
    rw [ej]
    exact ⟨e, rfl, h⟩
theorem mkAns {C : Nat → Addr} {v : V} {H : Hp} {es : List V} {Q : VK} (i : Nat) (m : Made C v H es) (hn : es.length = i) (hf : hasF i = true) (q : ∀ a H', Same H H' → Made C v H' (es ++ [.ref a]) → Q (.ref a) H') :
    rMkE (C i) (fname i) v H Q := by
  refine fun a dx na nd ne => q a _ ?_ ?_
  · exact sameUp (sameUp (Same.refl H) nd) (by rw [upd_ne (Ne.symm ne)]; exact na)
  · have s : Same H (upd (upd H dx (exd dx [(fname i, v)])) a (XO (C i) (some dx) a)) := sameUp (sameUp (Same.refl H) nd) (by rw [upd_ne (Ne.symm ne)]; exact na)
    subst hn
    have h1 : (upd (upd H dx (exd dx [(fname es.length, v)])) a (XO (C es.length) (some dx) a)) dx = some (exd dx [(fname es.length, v)]) := by rw [upd_ne ne, upd_same]
    exact made_snoc (made_same m s) ⟨.inr ⟨dx, _, upd_same, h1⟩, fun _ => ⟨dx, upd_same, h1⟩⟩
theorem mkAns0 {C : Nat → Addr} {v : V} {H : Hp} {es : List V} {Q : VK} (i : Nat) (m : Made C v H es) (hn : es.length = i) (hf : hasF i = false) (q : ∀ a H', Same H H' → Made C v H' (es ++ [.ref a]) → Q (.ref a) H') :
    rMk0 (C i) H Q := fun a na => by
  have s : Same H (upd H a (XO (C i) none a)) := sameUp (Same.refl H) na
  subst hn
  exact q a _ s (made_snoc (made_same m s) ⟨.inl upd_same, fun z => by rw [hf] at z; cases z⟩)
theorem catB {H1 : Hp} {l m : Addr} {xs ys : List V} {Q : VK} (h : H1 l = some (.lst xs)) (hm : H1 m = none) (hz : xs.length + ys.length ≤ 100) (q : ∀ p H2, Same H1 H2 → H2 p = some (.lst (xs ++ ys)) → Q (.ref p) H2) :
    rCat (.ref l) (.ref m) (upd H1 m (.lst ys)) Q := catAns (Same.refl H1) h hm hz q
theorem lastAns {K : PySem.W.Frag} {C : Nat → Addr} {v : V} {H0 H : Hp} {es : List V} {p : Addr} {i : Nat} {Q : VK} (hi : i < es.length) (m : Made C v H es) (hp : H p = some (.lst es)) (s : Same H0 H) (k : ∀ H' e, Same H0 H' → XV C v H' e i → Q (.ref e) H') :
    rIxL K (.ref p) (.int (i : Int)) H Q := by
  have e1 : es[i]? = some es[i] := List.getElem?_eq_getElem hi
  obtain ⟨e, he, hx⟩ := m i _ e1
  exact ⟨p, es, _, _, rfl, rfl, SqL.of hp, atI_nat e1, by rw [he]; exact k H e s hx⟩
theorem grp3 (i : Nat) : grp i = 0 ∨ grp i = 1 ∨ grp i = 2 := by
  unfold grp
  by_cases h : i < 9
  · rw [if_pos h]; exact .inl rfl
  · rw [if_neg h]
    by_cases h' : i < 15
    · rw [if_pos h']; exact .inr (.inl rfl)
    · rw [if_neg h']; exact .inr (.inr rfl)
abbrev sPlaced : Stmt := topS 30
abbrev sNamed : Stmt := topS 31
def spMk (C : Nat → Addr) : Sp := fun vs H Q _ => ∃ (i : Nat) (v : V), vs = [.int (i : Int), v] ∧ i < 17 ∧ ∀ H' e, Same H H' → XV C v H' e i → Q (.ref e) H'
section
variable {P : Program} {w : World} {K : PySem.W.Frag} {mg : Str → Option Value} {base : Heap} {C fI : Nat → Addr} {fd : Nat → FuncData}
section
variable {X : Cx} {p1 p2 p3 p4 : Pos}
theorem mkP (M : Mks X.prog X.w X.K X.mg X.base C fI fd) (i : Nat) {x : Str} (hi : i < 17) (hf : hasF i = true) (hx : cname i = x) (hr : Room 2 X.A) (hv : X.N[1]? = some ("_law_thing_here" : Str)) (hvs : Vis X.env.scope ("_law_thing_here" : Str)) (g2 : Gl X x)
    (he : starEach [.Name "_law_thing_here" p2] X.env = (false, eval (.Name "_law_thing_here" p2) X.env) :: starEach [] X.env := by rfl) (hpl : (backTo p3 (starEach [] X.env)).any (·.1) = false := by rfl) :
    PE X (.Call (.Name x p1) [.Name "_law_thing_here" p2] [] p3) (tMkE (C i) (fname i) (tVar 1)) := by
  subst hx
  have N := M.one i hi hf
  have k := grp3 i
  rcases k with k | k | k <;> rw [k] at N
  · exact pe_mkE PySem.F.excBase_ValueError N.T N.iC N.tI N.F1 hr N.b g2 N.gC (pe_var hv hvs) (cn_db i hi) he hpl
  · exact pe_mkE PySem.F.excBase_LookupError N.T N.iC N.tI N.F1 hr N.b g2 N.gC (pe_var hv hvs) (cn_db i hi) he hpl
  · exact pe_mkE PySem.F.excBase_ArithmeticError N.T N.iC N.tI N.F1 hr N.b g2 N.gC (pe_var hv hvs) (cn_db i hi) he hpl
theorem mkN (M : Mks X.prog X.w X.K X.mg X.base C fI fd) (i : Nat) {x f : Str} (hi : i < 17) (hf : hasF i = true) (hx : cname i = x) (hff : fname i = f) (hr : Room 2 X.A) (hv : X.N[1]? = some ("_law_thing_here" : Str)) (hvs : Vis X.env.scope ("_law_thing_here" : Str)) (g2 : Gl X x)
    (hall : (backToKw p3 (keywordEach [⟨some f, .Name "_law_thing_here" p2, p4⟩] X.env)).all (·.1.isSome) = true := by rfl) (hks : (backToKw p3 (keywordEach [⟨some f, .Name "_law_thing_here" p2, p4⟩] X.env)).filterMap (·.1) = [f] := by rfl)
    (hpl : ((backTo p3 (starEach [] X.env)).any (·.1) || (backToKw p3 (keywordEach [⟨some f, .Name "_law_thing_here" p2, p4⟩] X.env)).any (·.1.isNone)) = false := by rfl) :
    PE X (.Call (.Name x p1) [] [⟨some f, .Name "_law_thing_here" p2, p4⟩] p3) (tMkE (C i) (fname i) (tVar 1)) := by
  subst hx
  subst hff
  have N := M.one i hi hf
  have k := grp3 i
  rcases k with k | k | k <;> rw [k] at N
  · exact pe_mkEK PySem.F.excBase_ValueError N.T N.iC N.tI N.F1 hr N.bk g2 N.gC (pe_var hv hvs) hall hks (cn_db i hi) hpl
  · exact pe_mkEK PySem.F.excBase_LookupError N.T N.iC N.tI N.F1 hr N.bk g2 N.gC (pe_var hv hvs) hall hks (cn_db i hi) hpl
  · exact pe_mkEK PySem.F.excBase_ArithmeticError N.T N.iC N.tI N.F1 hr N.bk g2 N.gC (pe_var hv hvs) hall hks (cn_db i hi) hpl
theorem mkZ (M : Mks X.prog X.w X.K X.mg X.base C fI fd) (i : Nat) {x : Str} (hi : i < 17) (hf : hasF i = false) (hx : cname i = x) (g2 : Gl X x) :
    PE X (.Call (.Name x p1) [] [] p3) (fun _ H Q => ∃ y : V, y = .non ∧ rMk0 (C i) H Q) := by
  subst hx
  have N := M.non i hi hf
  have k := grp3 i
  rcases k with k | k | k <;> rw [k] at N
  · exact pe_mkE0 PySem.F.excBase_ValueError N.q N.gC N.kC g2 (cn_db i hi)
  · exact pe_mkE0 PySem.F.excBase_LookupError N.q N.gC N.kC g2 (cn_db i hi)
  · exact pe_mkE0 PySem.F.excBase_ArithmeticError N.q N.gC N.kC g2 (cn_db i hi)
end
end
end L2.EK

namespace L2.EK
open PySem PySem.Spec PyProof.Rows
section
variable {P : Program} {w : World} {K : PySem.W.Frag} {mg : Str → Option Value} {base : Heap} {C fI : Nat → Addr} {fd : Nat → FuncData}
theorem sc_law_placed : FnScope ["_law_at", "_law_thing_here", "_law_made"] ["_law_at", "_law_thing_here"] (defScope sPlaced) := ⟨rfl, rfl, rfl, by decide +kernel, rfl, by decide +kernel, by decide +kernel⟩
theorem ok_law_placed {f : Addr} {fd' : FuncData} (F : Fun K "_law_placed" "_law_placed" sPlaced f fd') (M : Mks P w K mg base C fI fd) : FnOk P w K mg base CX0 3 f fd' ["_law_at", "_law_thing_here"] (spMk C) := by
  refine F.ok sc_law_placed (fun vs H Q E h => ?_) (fun cdv A outer s H vs Q E hr h => ?_)
  · obtain ⟨i, v, rfl, _⟩ := h
    rfl
  · obtain ⟨i, v, rfl, hi, k⟩ := h
    have nd := sc_law_placed.nd
    refine ⟨_, pss_cons (ps_set (i := 2) nd rfl (Or.inl rfl) (pe_lst (pa_cons (mkP M 0 (by decide) rfl rfl hr rfl (Or.inl rfl) rfl) (pa_cons (mkP M 1 (by decide) rfl rfl hr rfl (Or.inl rfl) rfl) (pa_cons (mkP M 2 (by decide) rfl rfl hr rfl (Or.inl rfl) rfl) (pa_cons (mkP M 3 (by decide) rfl rfl hr rfl (Or.inl rfl) rfl) pa_nil))))))
      (pss_cons (ps_set (i := 2) nd rfl (Or.inl rfl) (pe_op op_cat (pv 2) (pe_lst (pa_cons (mkP M 4 (by decide) rfl rfl hr rfl (Or.inl rfl) rfl) (pa_cons (mkP M 5 (by decide) rfl rfl hr rfl (Or.inl rfl) rfl) (pa_cons (mkP M 6 (by decide) rfl rfl hr rfl (Or.inl rfl) rfl) pa_nil))))))
      (pss_cons (ps_set (i := 2) nd rfl (Or.inl rfl) (pe_op op_cat (pv 2) (pe_lst (pa_cons (mkP M 7 (by decide) rfl rfl hr rfl (Or.inl rfl) rfl) (pa_cons (mkP M 8 (by decide) rfl rfl hr rfl (Or.inl rfl) rfl) (pa_cons (mkP M 9 (by decide) rfl rfl hr rfl (Or.inl rfl) rfl) pa_nil))))))
      (pss_cons (ps_set (i := 2) nd rfl (Or.inl rfl) (pe_op op_cat (pv 2) (pe_lst (pa_cons (mkP M 10 (by decide) rfl rfl hr rfl (Or.inl rfl) rfl) (pa_cons (mkP M 11 (by decide) rfl rfl hr rfl (Or.inl rfl) rfl) (pa_cons (mkZ M 12 (by decide) rfl rfl rfl) (pa_cons (mkZ M 13 (by decide) rfl rfl rfl) (pa_cons (mkP M 14 (by decide) rfl rfl hr rfl (Or.inl rfl) rfl) pa_nil))))))))
      (pss_cons (ps_set (i := 2) nd rfl (Or.inl rfl) (pe_op op_cat (pv 2) (pe_lst (pa_cons (mkZ M 15 (by decide) rfl rfl rfl) (pa_cons (mkZ M 16 (by decide) rfl rfl rfl) pa_nil)))))
      (pss_one (ps_ret (pe_ix ix_list (pv 2) (pv 0) (fun _ _ => rfl)))))))), ?_⟩
    refine ⟨_, rfl, _, rfl, mkAns 0 made_nil rfl rfl fun a0 H1 s1 M1 => ⟨_, rfl, _, rfl, mkAns 1 M1 rfl rfl fun a1 H2 s2 M2 => ⟨_, rfl, _, rfl, mkAns 2 M2 rfl rfl fun a2 H3 s3 M3 => ⟨_, rfl, _, rfl, mkAns 3 M3 rfl rfl fun a3 H4 s4 M4 => ⟨by show 4 ≤ sizeLine; decide, fun l0 nl0 => ?_⟩⟩⟩⟩⟩
    have t0 : Same H H4 := (((s1).trans s2).trans s3).trans s4
    have M4' := made_same M4 (sameUp (Same.refl H4) (o := .lst ([.ref a0, .ref a1, .ref a2, .ref a3])) nl0)
    have u0 : Same H (upd H4 l0 (.lst [.ref a0, .ref a1, .ref a2, .ref a3])) := sameUp t0 nl0
    have c0 : (upd H4 l0 (.lst [.ref a0, .ref a1, .ref a2, .ref a3])) l0 = some (.lst [.ref a0, .ref a1, .ref a2, .ref a3]) := upd_same
    show tSeq _ _ _ _ (upd H4 l0 (.lst [.ref a0, .ref a1, .ref a2, .ref a3]))
    generalize upd H4 l0 (.lst [.ref a0, .ref a1, .ref a2, .ref a3]) = G0 at M4' u0 c0 ⊢
    clear M4
    have M4 := M4'
    clear M4'
    have p0 := l0
    refine ⟨_, rfl, ⟨_, rfl, _, rfl, mkAns 4 M4 rfl rfl fun a4 H5 s5 M5 => ⟨_, rfl, _, rfl, mkAns 5 M5 rfl rfl fun a5 H6 s6 M6 => ⟨_, rfl, _, rfl, mkAns 6 M6 rfl rfl fun a6 H7 s7 M7 => ⟨by show 3 ≤ sizeLine; decide, fun l1 nl1 => ?_⟩⟩⟩⟩⟩
    have t1 : Same G0 H7 := ((s5).trans s6).trans s7
    refine catB (t1 _ _ c0) nl1 (by show 7 ≤ 100; decide) fun p1 G1 v1 c1 => ?_
    have u1 : Same H G1 := u0.trans (t1.trans v1)
    have M7' := made_same M7 v1
    clear M7
    have M7 := M7'
    clear M7'
    refine ⟨_, rfl, ⟨_, rfl, _, rfl, mkAns 7 M7 rfl rfl fun a7 H8 s8 M8 => ⟨_, rfl, _, rfl, mkAns 8 M8 rfl rfl fun a8 H9 s9 M9 => ⟨_, rfl, _, rfl, mkAns 9 M9 rfl rfl fun a9 H10 s10 M10 => ⟨by show 3 ≤ sizeLine; decide, fun l2 nl2 => ?_⟩⟩⟩⟩⟩
    have t2 : Same G1 H10 := ((s8).trans s9).trans s10
    refine catB (t2 _ _ c1) nl2 (by show 10 ≤ 100; decide) fun p2 G2 v2 c2 => ?_
    have u2 : Same H G2 := u1.trans (t2.trans v2)
    have M10' := made_same M10 v2
    clear M10
    have M10 := M10'
    clear M10'
    refine ⟨_, rfl, ⟨_, rfl, _, rfl, mkAns 10 M10 rfl rfl fun a10 H11 s11 M11 => ⟨_, rfl, _, rfl, mkAns 11 M11 rfl rfl fun a11 H12 s12 M12 => ⟨_, rfl, mkAns0 12 M12 rfl rfl fun a12 H13 s13 M13 => ⟨_, rfl, mkAns0 13 M13 rfl rfl fun a13 H14 s14 M14 => ⟨_, rfl, _, rfl, mkAns 14 M14 rfl rfl fun a14 H15 s15 M15 => ⟨by show 5 ≤ sizeLine; decide, fun l3 nl3 => ?_⟩⟩⟩⟩⟩⟩⟩
    have t3 : Same G2 H15 := ((((s11).trans s12).trans s13).trans s14).trans s15
    refine catB (t3 _ _ c2) nl3 (by show 15 ≤ 100; decide) fun p3 G3 v3 c3 => ?_
    have u3 : Same H G3 := u2.trans (t3.trans v3)
    have M15' := made_same M15 v3
    clear M15
    have M15 := M15'
    clear M15'
    refine ⟨_, rfl, ⟨_, rfl, mkAns0 15 M15 rfl rfl fun a15 H16 s16 M16 => ⟨_, rfl, mkAns0 16 M16 rfl rfl fun a16 H17 s17 M17 => ⟨by show 2 ≤ sizeLine; decide, fun l4 nl4 => ?_⟩⟩⟩⟩
    have t4 : Same G3 H17 := (s16).trans s17
    refine catB (t4 _ _ c3) nl4 (by show 17 ≤ 100; decide) fun p4 G4 v4 c4 => ?_
    have u4 : Same H G4 := u3.trans (t4.trans v4)
    have M17' := made_same M17 v4
    clear M17
    have M17 := M17'
    clear M17'
    exact ⟨_, rfl, _, rfl, lastAns (by show i < 17; exact hi) M17 c4 u4 k⟩
theorem sc_law_named : FnScope ["_law_at", "_law_thing_here", "_law_made"] ["_law_at", "_law_thing_here"] (defScope sNamed) := ⟨rfl, rfl, rfl, by decide +kernel, rfl, by decide +kernel, by decide +kernel⟩
theorem ok_law_named {f : Addr} {fd' : FuncData} (F : Fun K "_law_named" "_law_named" sNamed f fd') (M : Mks P w K mg base C fI fd) : FnOk P w K mg base CX0 3 f fd' ["_law_at", "_law_thing_here"] (spMk C) := by
  refine F.ok sc_law_named (fun vs H Q E h => ?_) (fun cdv A outer s H vs Q E hr h => ?_)
  · obtain ⟨i, v, rfl, _⟩ := h
    rfl
  · obtain ⟨i, v, rfl, hi, k⟩ := h
    have nd := sc_law_named.nd
    refine ⟨_, pss_cons (ps_set (i := 2) nd rfl (Or.inl rfl) (pe_lst (pa_cons (mkN M 0 (by decide) rfl rfl rfl hr rfl (Or.inl rfl) rfl) (pa_cons (mkN M 1 (by decide) rfl rfl rfl hr rfl (Or.inl rfl) rfl) (pa_cons (mkN M 2 (by decide) rfl rfl rfl hr rfl (Or.inl rfl) rfl) pa_nil)))))
      (pss_cons (ps_set (i := 2) nd rfl (Or.inl rfl) (pe_op op_cat (pv 2) (pe_lst (pa_cons (mkN M 3 (by decide) rfl rfl rfl hr rfl (Or.inl rfl) rfl) (pa_cons (mkN M 4 (by decide) rfl rfl rfl hr rfl (Or.inl rfl) rfl) pa_nil)))))
      (pss_cons (ps_set (i := 2) nd rfl (Or.inl rfl) (pe_op op_cat (pv 2) (pe_lst (pa_cons (mkN M 5 (by decide) rfl rfl rfl hr rfl (Or.inl rfl) rfl) (pa_cons (mkN M 6 (by decide) rfl rfl rfl hr rfl (Or.inl rfl) rfl) pa_nil)))))
      (pss_cons (ps_set (i := 2) nd rfl (Or.inl rfl) (pe_op op_cat (pv 2) (pe_lst (pa_cons (mkN M 7 (by decide) rfl rfl rfl hr rfl (Or.inl rfl) rfl) (pa_cons (mkN M 8 (by decide) rfl rfl rfl hr rfl (Or.inl rfl) rfl) pa_nil)))))
      (pss_cons (ps_set (i := 2) nd rfl (Or.inl rfl) (pe_op op_cat (pv 2) (pe_lst (pa_cons (mkN M 9 (by decide) rfl rfl rfl hr rfl (Or.inl rfl) rfl) (pa_cons (mkN M 10 (by decide) rfl rfl rfl hr rfl (Or.inl rfl) rfl) (pa_cons (mkN M 11 (by decide) rfl rfl rfl hr rfl (Or.inl rfl) rfl) pa_nil))))))
      (pss_cons (ps_set (i := 2) nd rfl (Or.inl rfl) (pe_op op_cat (pv 2) (pe_lst (pa_cons (mkZ M 12 (by decide) rfl rfl rfl) (pa_cons (mkZ M 13 (by decide) rfl rfl rfl) (pa_cons (mkN M 14 (by decide) rfl rfl rfl hr rfl (Or.inl rfl) rfl) (pa_cons (mkZ M 15 (by decide) rfl rfl rfl) (pa_cons (mkZ M 16 (by decide) rfl rfl rfl) pa_nil))))))))
      (pss_one (ps_ret (pe_ix ix_list (pv 2) (pv 0) (fun _ _ => rfl))))))))), ?_⟩
    refine ⟨_, rfl, _, rfl, mkAns 0 made_nil rfl rfl fun a0 H1 s1 M1 => ⟨_, rfl, _, rfl, mkAns 1 M1 rfl rfl fun a1 H2 s2 M2 => ⟨_, rfl, _, rfl, mkAns 2 M2 rfl rfl fun a2 H3 s3 M3 => ⟨by show 3 ≤ sizeLine; decide, fun l0 nl0 => ?_⟩⟩⟩⟩
    have t0 : Same H H3 := ((s1).trans s2).trans s3
    have M3' := made_same M3 (sameUp (Same.refl H3) (o := .lst ([.ref a0, .ref a1, .ref a2])) nl0)
    have u0 : Same H (upd H3 l0 (.lst [.ref a0, .ref a1, .ref a2])) := sameUp t0 nl0
    have c0 : (upd H3 l0 (.lst [.ref a0, .ref a1, .ref a2])) l0 = some (.lst [.ref a0, .ref a1, .ref a2]) := upd_same
    show tSeq _ _ _ _ (upd H3 l0 (.lst [.ref a0, .ref a1, .ref a2]))
    generalize upd H3 l0 (.lst [.ref a0, .ref a1, .ref a2]) = G0 at M3' u0 c0 ⊢
    clear M3
    have M3 := M3'
    clear M3'
    have p0 := l0
    refine ⟨_, rfl, ⟨_, rfl, _, rfl, mkAns 3 M3 rfl rfl fun a3 H4 s4 M4 => ⟨_, rfl, _, rfl, mkAns 4 M4 rfl rfl fun a4 H5 s5 M5 => ⟨by show 2 ≤ sizeLine; decide, fun l1 nl1 => ?_⟩⟩⟩⟩
    have t1 : Same G0 H5 := (s4).trans s5
    refine catB (t1 _ _ c0) nl1 (by show 5 ≤ 100; decide) fun p1 G1 v1 c1 => ?_
    have u1 : Same H G1 := u0.trans (t1.trans v1)
    have M5' := made_same M5 v1
    clear M5
    have M5 := M5'
    clear M5'
    refine ⟨_, rfl, ⟨_, rfl, _, rfl, mkAns 5 M5 rfl rfl fun a5 H6 s6 M6 => ⟨_, rfl, _, rfl, mkAns 6 M6 rfl rfl fun a6 H7 s7 M7 => ⟨by show 2 ≤ sizeLine; decide, fun l2 nl2 => ?_⟩⟩⟩⟩
    have t2 : Same G1 H7 := (s6).trans s7
    refine catB (t2 _ _ c1) nl2 (by show 7 ≤ 100; decide) fun p2 G2 v2 c2 => ?_
    have u2 : Same H G2 := u1.trans (t2.trans v2)
    have M7' := made_same M7 v2
    clear M7
    have M7 := M7'
    clear M7'
    refine ⟨_, rfl, ⟨_, rfl, _, rfl, mkAns 7 M7 rfl rfl fun a7 H8 s8 M8 => ⟨_, rfl, _, rfl, mkAns 8 M8 rfl rfl fun a8 H9 s9 M9 => ⟨by show 2 ≤ sizeLine; decide, fun l3 nl3 => ?_⟩⟩⟩⟩
    have t3 : Same G2 H9 := (s8).trans s9
    refine catB (t3 _ _ c2) nl3 (by show 9 ≤ 100; decide) fun p3 G3 v3 c3 => ?_
    have u3 : Same H G3 := u2.trans (t3.trans v3)
    have M9' := made_same M9 v3
    clear M9
    have M9 := M9'
    clear M9'
    refine ⟨_, rfl, ⟨_, rfl, _, rfl, mkAns 9 M9 rfl rfl fun a9 H10 s10 M10 => ⟨_, rfl, _, rfl, mkAns 10 M10 rfl rfl fun a10 H11 s11 M11 => ⟨_, rfl, _, rfl, mkAns 11 M11 rfl rfl fun a11 H12 s12 M12 => ⟨by show 3 ≤ sizeLine; decide, fun l4 nl4 => ?_⟩⟩⟩⟩⟩
    have t4 : Same G3 H12 := ((s10).trans s11).trans s12
    refine catB (t4 _ _ c3) nl4 (by show 12 ≤ 100; decide) fun p4 G4 v4 c4 => ?_
    have u4 : Same H G4 := u3.trans (t4.trans v4)
    have M12' := made_same M12 v4
    clear M12
    have M12 := M12'
    clear M12'
    refine ⟨_, rfl, ⟨_, rfl, mkAns0 12 M12 rfl rfl fun a12 H13 s13 M13 => ⟨_, rfl, mkAns0 13 M13 rfl rfl fun a13 H14 s14 M14 => ⟨_, rfl, _, rfl, mkAns 14 M14 rfl rfl fun a14 H15 s15 M15 => ⟨_, rfl, mkAns0 15 M15 rfl rfl fun a15 H16 s16 M16 => ⟨_, rfl, mkAns0 16 M16 rfl rfl fun a16 H17 s17 M17 => ⟨by show 5 ≤ sizeLine; decide, fun l5 nl5 => ?_⟩⟩⟩⟩⟩⟩⟩
    have t5 : Same G4 H17 := ((((s13).trans s14).trans s15).trans s16).trans s17
    refine catB (t5 _ _ c4) nl5 (by show 17 ≤ 100; decide) fun p5 G5 v5 c5 => ?_
    have u5 : Same H G5 := u4.trans (t5.trans v5)
    have M17' := made_same M17 v5
    clear M17
    have M17 := M17'
    clear M17'
    exact ⟨_, rfl, _, rfl, lastAns (by show i < 17; exact hi) M17 c5 u5 k⟩
end
end L2.EK

namespace L2.EK
open PySem PySem.Spec PyProof.Rows
abbrev sField : Stmt := topS 32
def spField (C : Nat → Addr) : Sp := fun vs H Q _ => ∃ (a : Addr) (i : Nat) (v : V), vs = [.ref a, .int (i : Int)] ∧ i < 17 ∧ hasF i = true ∧ XV C v H a i ∧ ∀ H', Same H H' → Q v H'
theorem scField : FnScope ["_law_e", "_law_at"] ["_law_e", "_law_at"] (defScope sField) := ⟨rfl, rfl, rfl, by decide +kernel, rfl, by decide +kernel, by decide +kernel⟩
theorem fldAns {K : PySem.W.Frag} {C : Nat → Addr} {v : V} {H0 H : Hp} {a : Addr} {i : Nat} {f : Str} {Q : VK} (hx : XV C v H0 a i) (s : Same H0 H) (ex : EX K (C i)) (no : PySem.W.findIn K (.ref (C i)) (fname i) = some none) (hf : hasF i = true) (e : fname i = f) (q : Q v H) :
    rXF K f a H Q := by
  obtain ⟨dx, h1, h2⟩ := hx.fld hf
  subst e
  exact ⟨C i, dx, _, v, s _ _ h1, s _ _ h2, ex, no, by simp [List.lookup], q⟩
section
variable {P : Program} {w : World} {K : PySem.W.Frag} {mg : Str → Option Value} {base : Heap} {C D : Nat → Addr}
theorem ok_field {f : Addr} {fd : FuncData} (F : Fun K "_law_field" "_law_field" sField f fd) (T : Cl K mg C D) (no : ∀ i, i < 17 → hasF i = true → PySem.W.findIn K (.ref (C i)) (fname i) = some none) : FnOk P w K mg base CX0 1 f fd ["_law_e", "_law_at"] (spField C) := by
  refine F.ok scField (fun vs H Q E h => ?_) (fun cdv A outer s H vs Q E hr h => ?_)
  · obtain ⟨a, i, v, rfl, _⟩ := h
    rfl
  · obtain ⟨a, i, v, rfl, hi, hf, hx, k⟩ := h
    refine ⟨_, pss_cons (ps_if (pt_cmpR op_in_seq (pv 1) (pe_lst (pa_cons pe_int (pa_cons pe_int pa_nil))) (by rfl)) (pss_one (ps_ret (pe_xfld (pv 0)))) pss_nil)
      (pss_cons (ps_if (pt_cmpR op_in_seq (pv 1) (pe_lst (pa_cons pe_int (pa_cons pe_int pa_nil))) (by rfl)) (pss_one (ps_ret (pe_xfld (pv 0)))) pss_nil)
      (pss_cons (ps_if (pt_cmpR op_in_seq (pv 1) (pe_lst (pa_cons pe_int (pa_cons pe_int (pa_cons pe_int (pa_cons pe_int (pa_cons pe_int (pa_cons pe_int pa_nil))))))) (by rfl)) (pss_one (ps_ret (pe_xfld (pv 0)))) pss_nil)
      (pss_cons (ps_if (pt_cmpR op_eq (pv 1) pe_int (nomark _)) (pss_one (ps_ret (pe_xfld (pv 0)))) pss_nil)
      (pss_one (ps_ret (pe_ifExp (pt_cmpR op_eq (pv 1) pe_int (nomark _)) (pe_xfld (pv 0)) (pe_xfld (pv 0)))))))), ?_⟩
    have hc : i ∈ [0, 1, 2, 3, 4, 5, 6, 7, 8, 9, 10, 11, 14] := (by decide : ∀ i, i < 17 → hasF i = true → i ∈ [0, 1, 2, 3, 4, 5, 6, 7, 8, 9, 10, 11, 14]) i hi hf
    have s0 := Same.refl H
    simp only [List.mem_cons, List.not_mem_nil, or_false] at hc
    rcases hc with rfl | rfl | rfl | rfl | rfl | rfl | rfl | rfl | rfl | rfl | rfl | rfl | rfl
    · refine ⟨_, rfl, by show 2 ≤ sizeLine; decide, fun l nl => ⟨l, _, rfl, .inl (SqL.of upd_same), rfl, rfl, _, rfl, ite2 (fun _ => ?_) fun z => absurd rfl z⟩⟩
      exact ⟨_, rfl, _, rfl, fldAns hx (sameUp s0 nl) (T.ex _ hi) (no _ hi hf) hf rfl (k _ (sameUp s0 nl))⟩
    · refine ⟨_, rfl, by show 2 ≤ sizeLine; decide, fun l nl => ⟨l, _, rfl, .inl (SqL.of upd_same), rfl, rfl, _, rfl, ite2 (fun z => absurd z (by decide)) fun _ => ?_⟩⟩
      have s1 := sameUp (o := .lst [.int 0, .int 11]) s0 nl
      refine ⟨_, rfl, by show 2 ≤ sizeLine; decide, fun l nl => ⟨l, _, rfl, .inl (SqL.of upd_same), rfl, rfl, _, rfl, ite2 (fun _ => ?_) fun z => absurd rfl z⟩⟩
      exact ⟨_, rfl, _, rfl, fldAns hx (sameUp s1 nl) (T.ex _ hi) (no _ hi hf) hf rfl (k _ (sameUp s1 nl))⟩
    · refine ⟨_, rfl, by show 2 ≤ sizeLine; decide, fun l nl => ⟨l, _, rfl, .inl (SqL.of upd_same), rfl, rfl, _, rfl, ite2 (fun z => absurd z (by decide)) fun _ => ?_⟩⟩
      have s1 := sameUp (o := .lst [.int 0, .int 11]) s0 nl
      refine ⟨_, rfl, by show 2 ≤ sizeLine; decide, fun l nl => ⟨l, _, rfl, .inl (SqL.of upd_same), rfl, rfl, _, rfl, ite2 (fun z => absurd z (by decide)) fun _ => ?_⟩⟩
      have s2 := sameUp (o := .lst [.int 1, .int 9]) s1 nl
      refine ⟨_, rfl, by show 6 ≤ sizeLine; decide, fun l nl => ⟨l, _, rfl, .inl (SqL.of upd_same), rfl, rfl, _, rfl, ite2 (fun _ => ?_) fun z => absurd rfl z⟩⟩
      exact ⟨_, rfl, _, rfl, fldAns hx (sameUp s2 nl) (T.ex _ hi) (no _ hi hf) hf rfl (k _ (sameUp s2 nl))⟩
    · refine ⟨_, rfl, by show 2 ≤ sizeLine; decide, fun l nl => ⟨l, _, rfl, .inl (SqL.of upd_same), rfl, rfl, _, rfl, ite2 (fun z => absurd z (by decide)) fun _ => ?_⟩⟩
      have s1 := sameUp (o := .lst [.int 0, .int 11]) s0 nl
      refine ⟨_, rfl, by show 2 ≤ sizeLine; decide, fun l nl => ⟨l, _, rfl, .inl (SqL.of upd_same), rfl, rfl, _, rfl, ite2 (fun z => absurd z (by decide)) fun _ => ?_⟩⟩
      have s2 := sameUp (o := .lst [.int 1, .int 9]) s1 nl
      refine ⟨_, rfl, by show 6 ≤ sizeLine; decide, fun l nl => ⟨l, _, rfl, .inl (SqL.of upd_same), rfl, rfl, _, rfl, ite2 (fun _ => ?_) fun z => absurd rfl z⟩⟩
      exact ⟨_, rfl, _, rfl, fldAns hx (sameUp s2 nl) (T.ex _ hi) (no _ hi hf) hf rfl (k _ (sameUp s2 nl))⟩
    · refine ⟨_, rfl, by show 2 ≤ sizeLine; decide, fun l nl => ⟨l, _, rfl, .inl (SqL.of upd_same), rfl, rfl, _, rfl, ite2 (fun z => absurd z (by decide)) fun _ => ?_⟩⟩
      have s1 := sameUp (o := .lst [.int 0, .int 11]) s0 nl
      refine ⟨_, rfl, by show 2 ≤ sizeLine; decide, fun l nl => ⟨l, _, rfl, .inl (SqL.of upd_same), rfl, rfl, _, rfl, ite2 (fun z => absurd z (by decide)) fun _ => ?_⟩⟩
      have s2 := sameUp (o := .lst [.int 1, .int 9]) s1 nl
      refine ⟨_, rfl, by show 6 ≤ sizeLine; decide, fun l nl => ⟨l, _, rfl, .inl (SqL.of upd_same), rfl, rfl, _, rfl, ite2 (fun _ => ?_) fun z => absurd rfl z⟩⟩
      exact ⟨_, rfl, _, rfl, fldAns hx (sameUp s2 nl) (T.ex _ hi) (no _ hi hf) hf rfl (k _ (sameUp s2 nl))⟩
    · refine ⟨_, rfl, by show 2 ≤ sizeLine; decide, fun l nl => ⟨l, _, rfl, .inl (SqL.of upd_same), rfl, rfl, _, rfl, ite2 (fun z => absurd z (by decide)) fun _ => ?_⟩⟩
      have s1 := sameUp (o := .lst [.int 0, .int 11]) s0 nl
      refine ⟨_, rfl, by show 2 ≤ sizeLine; decide, fun l nl => ⟨l, _, rfl, .inl (SqL.of upd_same), rfl, rfl, _, rfl, ite2 (fun z => absurd z (by decide)) fun _ => ?_⟩⟩
      have s2 := sameUp (o := .lst [.int 1, .int 9]) s1 nl
      refine ⟨_, rfl, by show 6 ≤ sizeLine; decide, fun l nl => ⟨l, _, rfl, .inl (SqL.of upd_same), rfl, rfl, _, rfl, ite2 (fun _ => ?_) fun z => absurd rfl z⟩⟩
      exact ⟨_, rfl, _, rfl, fldAns hx (sameUp s2 nl) (T.ex _ hi) (no _ hi hf) hf rfl (k _ (sameUp s2 nl))⟩
    · refine ⟨_, rfl, by show 2 ≤ sizeLine; decide, fun l nl => ⟨l, _, rfl, .inl (SqL.of upd_same), rfl, rfl, _, rfl, ite2 (fun z => absurd z (by decide)) fun _ => ?_⟩⟩
      have s1 := sameUp (o := .lst [.int 0, .int 11]) s0 nl
      refine ⟨_, rfl, by show 2 ≤ sizeLine; decide, fun l nl => ⟨l, _, rfl, .inl (SqL.of upd_same), rfl, rfl, _, rfl, ite2 (fun z => absurd z (by decide)) fun _ => ?_⟩⟩
      have s2 := sameUp (o := .lst [.int 1, .int 9]) s1 nl
      refine ⟨_, rfl, by show 6 ≤ sizeLine; decide, fun l nl => ⟨l, _, rfl, .inl (SqL.of upd_same), rfl, rfl, _, rfl, ite2 (fun z => absurd z (by decide)) fun _ => ?_⟩⟩
      have s3 := sameUp (o := .lst [.int 2, .int 3, .int 4, .int 5, .int 10, .int 14]) s2 nl
      refine ⟨_, rfl, rfl, _, rfl, ite2 (fun _ => ?_) fun z => absurd rfl z⟩
      exact ⟨_, rfl, _, rfl, fldAns hx s3 (T.ex _ hi) (no _ hi hf) hf rfl (k _ s3)⟩
    · refine ⟨_, rfl, by show 2 ≤ sizeLine; decide, fun l nl => ⟨l, _, rfl, .inl (SqL.of upd_same), rfl, rfl, _, rfl, ite2 (fun z => absurd z (by decide)) fun _ => ?_⟩⟩
      have s1 := sameUp (o := .lst [.int 0, .int 11]) s0 nl
      refine ⟨_, rfl, by show 2 ≤ sizeLine; decide, fun l nl => ⟨l, _, rfl, .inl (SqL.of upd_same), rfl, rfl, _, rfl, ite2 (fun z => absurd z (by decide)) fun _ => ?_⟩⟩
      have s2 := sameUp (o := .lst [.int 1, .int 9]) s1 nl
      refine ⟨_, rfl, by show 6 ≤ sizeLine; decide, fun l nl => ⟨l, _, rfl, .inl (SqL.of upd_same), rfl, rfl, _, rfl, ite2 (fun z => absurd z (by decide)) fun _ => ?_⟩⟩
      have s3 := sameUp (o := .lst [.int 2, .int 3, .int 4, .int 5, .int 10, .int 14]) s2 nl
      refine ⟨_, rfl, rfl, _, rfl, ite2 (fun z => absurd z (by decide)) fun _ => ?_⟩
      refine ⟨_, rfl, rfl, _, rfl, ite2 (fun _ => ?_) fun z => absurd rfl z⟩
      exact ⟨_, rfl, _, rfl, fldAns hx s3 (T.ex _ hi) (no _ hi hf) hf rfl (k _ s3)⟩
    · refine ⟨_, rfl, by show 2 ≤ sizeLine; decide, fun l nl => ⟨l, _, rfl, .inl (SqL.of upd_same), rfl, rfl, _, rfl, ite2 (fun z => absurd z (by decide)) fun _ => ?_⟩⟩
      have s1 := sameUp (o := .lst [.int 0, .int 11]) s0 nl
      refine ⟨_, rfl, by show 2 ≤ sizeLine; decide, fun l nl => ⟨l, _, rfl, .inl (SqL.of upd_same), rfl, rfl, _, rfl, ite2 (fun z => absurd z (by decide)) fun _ => ?_⟩⟩
      have s2 := sameUp (o := .lst [.int 1, .int 9]) s1 nl
      refine ⟨_, rfl, by show 6 ≤ sizeLine; decide, fun l nl => ⟨l, _, rfl, .inl (SqL.of upd_same), rfl, rfl, _, rfl, ite2 (fun z => absurd z (by decide)) fun _ => ?_⟩⟩
      have s3 := sameUp (o := .lst [.int 2, .int 3, .int 4, .int 5, .int 10, .int 14]) s2 nl
      refine ⟨_, rfl, rfl, _, rfl, ite2 (fun z => absurd z (by decide)) fun _ => ?_⟩
      refine ⟨_, rfl, rfl, _, rfl, ite2 (fun z => absurd z (by decide)) fun _ => ?_⟩
      exact ⟨_, rfl, _, rfl, fldAns hx s3 (T.ex _ hi) (no _ hi hf) hf rfl (k _ s3)⟩
    · refine ⟨_, rfl, by show 2 ≤ sizeLine; decide, fun l nl => ⟨l, _, rfl, .inl (SqL.of upd_same), rfl, rfl, _, rfl, ite2 (fun z => absurd z (by decide)) fun _ => ?_⟩⟩
      have s1 := sameUp (o := .lst [.int 0, .int 11]) s0 nl
      refine ⟨_, rfl, by show 2 ≤ sizeLine; decide, fun l nl => ⟨l, _, rfl, .inl (SqL.of upd_same), rfl, rfl, _, rfl, ite2 (fun _ => ?_) fun z => absurd rfl z⟩⟩
      exact ⟨_, rfl, _, rfl, fldAns hx (sameUp s1 nl) (T.ex _ hi) (no _ hi hf) hf rfl (k _ (sameUp s1 nl))⟩
    · refine ⟨_, rfl, by show 2 ≤ sizeLine; decide, fun l nl => ⟨l, _, rfl, .inl (SqL.of upd_same), rfl, rfl, _, rfl, ite2 (fun z => absurd z (by decide)) fun _ => ?_⟩⟩
      have s1 := sameUp (o := .lst [.int 0, .int 11]) s0 nl
      refine ⟨_, rfl, by show 2 ≤ sizeLine; decide, fun l nl => ⟨l, _, rfl, .inl (SqL.of upd_same), rfl, rfl, _, rfl, ite2 (fun z => absurd z (by decide)) fun _ => ?_⟩⟩
      have s2 := sameUp (o := .lst [.int 1, .int 9]) s1 nl
      refine ⟨_, rfl, by show 6 ≤ sizeLine; decide, fun l nl => ⟨l, _, rfl, .inl (SqL.of upd_same), rfl, rfl, _, rfl, ite2 (fun _ => ?_) fun z => absurd rfl z⟩⟩
      exact ⟨_, rfl, _, rfl, fldAns hx (sameUp s2 nl) (T.ex _ hi) (no _ hi hf) hf rfl (k _ (sameUp s2 nl))⟩
    · refine ⟨_, rfl, by show 2 ≤ sizeLine; decide, fun l nl => ⟨l, _, rfl, .inl (SqL.of upd_same), rfl, rfl, _, rfl, ite2 (fun _ => ?_) fun z => absurd rfl z⟩⟩
      exact ⟨_, rfl, _, rfl, fldAns hx (sameUp s0 nl) (T.ex _ hi) (no _ hi hf) hf rfl (k _ (sameUp s0 nl))⟩
    · refine ⟨_, rfl, by show 2 ≤ sizeLine; decide, fun l nl => ⟨l, _, rfl, .inl (SqL.of upd_same), rfl, rfl, _, rfl, ite2 (fun z => absurd z (by decide)) fun _ => ?_⟩⟩
      have s1 := sameUp (o := .lst [.int 0, .int 11]) s0 nl
      refine ⟨_, rfl, by show 2 ≤ sizeLine; decide, fun l nl => ⟨l, _, rfl, .inl (SqL.of upd_same), rfl, rfl, _, rfl, ite2 (fun z => absurd z (by decide)) fun _ => ?_⟩⟩
      have s2 := sameUp (o := .lst [.int 1, .int 9]) s1 nl
      refine ⟨_, rfl, by show 6 ≤ sizeLine; decide, fun l nl => ⟨l, _, rfl, .inl (SqL.of upd_same), rfl, rfl, _, rfl, ite2 (fun _ => ?_) fun z => absurd rfl z⟩⟩
      exact ⟨_, rfl, _, rfl, fldAns hx (sameUp s2 nl) (T.ex _ hi) (no _ hi hf) hf rfl (k _ (sameUp s2 nl))⟩
end
end L2.EK

namespace L2.EK
open PySem PySem.Spec PyProof.Rows
def topS' (i : Nat) : Stmt := PySem.Challenge.pw_halverules_k01_errors_and_limits.main.body.getD i (.Pass ⟨0, 0, 0, 0⟩)
abbrev sCell : Stmt := topS' 26
abbrev sPurse : Stmt := topS' 27
abbrev sDraw : Stmt := topS' 28
abbrev PM : Int := 2147483029
def spCell (K : PySem.W.Frag) : Sp := fun vs H Q _ => ∃ (a : Addr) (ns : List Int) (k : Nat), vs = [.ref a, .int (k : Int)] ∧ SqL K H a (ns.map V.int) ∧ ns.length ≤ 63 ∧ k ≤ 100 ∧ ∀ (z : Int) H', Same H H' → Q (.int z) H'
def spPurse : Sp := fun vs H Q _ => ∃ (z : Int), vs = [.int z] ∧ ∀ (p : Addr) (m f : Int), H p = none → 0 ≤ m → m < PM → 0 ≤ f → Q (.ref p) (upd H p (.lst [.int m, .int f, .int 0]))
def spDraw : Sp := fun vs H Q _ => ∃ (p : Addr) (m f c n : Int), vs = [.ref p, .int n] ∧ H p = some (.lst [.int m, .int f, .int c]) ∧ 0 ≤ m ∧ m < PM ∧ 0 ≤ f ∧ 0 ≤ c ∧ c ≤ 1000 ∧ 0 < n ∧ n ≤ 10 ^ 20 ∧
  ∀ (m' f' d : Int), 0 ≤ m' → m' < PM → 0 ≤ f' → 0 ≤ d → d < n → Q (.int d) (upd H p (.lst [.int m', .int f', .int (c + 1)]))
structure Nb (mg : Str → Option Value) : Prop where
  len : mg "len" = none
  int : mg "int" = none
  abs : mg "abs" = none
  str : mg "str" = none
section
variable {P : Program} {w : World} {K : PySem.W.Frag} {mg : Str → Option Value} {base : Heap}
theorem scCell : FnScope ["_law_cells", "_law_k", "_law_seed", "_law_cell_here"] ["_law_cells", "_law_k"] (defScope sCell) := ⟨rfl, rfl, rfl, by decide +kernel, rfl, by decide +kernel, by decide +kernel⟩
theorem scPurse : FnScope ["_law_cell_here", "_law_figures"] ["_law_cell_here"] (defScope sPurse) := ⟨rfl, rfl, rfl, by decide +kernel, rfl, by decide +kernel, by decide +kernel⟩
theorem scDraw : FnScope ["_law_purse_here", "_law_many", "_law_seed", "_law_digit"] ["_law_purse_here", "_law_many"] (defScope sDraw) := ⟨rfl, rfl, rfl, by decide +kernel, rfl, by decide +kernel, by decide +kernel⟩
theorem modPM (x : Int) : 0 ≤ x % 2147483029 ∧ x % 2147483029 < PM := ⟨Int.emod_nonneg _ (by decide), Int.emod_lt_of_pos _ (by decide)⟩
theorem ok_purse {f : Addr} {fd : FuncData} (F : Fun K "_law_purse" "_law_purse" sPurse f fd) (B : Nb mg) : FnOk P w K mg base CX0 1 f fd ["_law_cell_here"] spPurse := by
  refine F.ok scPurse (fun vs H Q E h => ?_) (fun cdv A outer s H vs Q E hr h => ?_)
  · obtain ⟨z, rfl, _⟩ := h
    rfl
  · obtain ⟨z, rfl, k⟩ := h
    refine ⟨_, pss_cons (ps_set (i := 1) scPurse.nd rfl (Or.inl rfl) (pe_ifExp (PW.pt (pw_or (pt_cmpR op_lt (pv 0) pe_int (nomark _)) (pw_or1 (pt_cmpR op_ge (pv 0) (pe_op op_pow pe_int pe_int) (nomark _))))) (pe_callB call_abs (by rfl) B.abs (by decide +kernel) (pa_cons (pv 0) pa_nil)) pe_int))
      (pss_one (ps_ret (pe_lst (pa_cons (pe_op op_mod (pe_callTy call_int1 (by rfl) B.int (by decide +kernel) (pa_cons (pv 0) pa_nil)) pe_int) (pa_cons (pv 1) (pa_cons pe_int pa_nil)))))), ?_⟩
    have last : ∀ (f : Int), 0 ≤ f → tRet (tLst (tCons (tOp (rI (fun _ j => 0 < j) fun i j => V.int (i % j)) (tCB (fun xs H Q => (∃ i, xs = [V.int i] ∧ Q (V.int i) H) ∨ ∃ k, xs = [V.bl k] ∧ Q (V.int (if k = true then 1 else 0)) H) (tCons (tVar 0) tNil)) (tC (V.int 2147483029))) (tCons (tVar 1) (tCons (tC (V.int 0)) tNil)))) { nx := fun _ H' => Q .non H', rt := Q } [some (.int z), some (.int f)] H := fun f hf => by
      refine ⟨_, rfl, .inl ⟨_, rfl, _, _, rfl, rfl, (by show (0 : Int) < 2147483029; decide), _, rfl, by show 3 ≤ sizeLine; decide, fun p np => ?_⟩⟩
      exact k p _ f np (modPM z).1 (modPM z).2 hf
    refine ⟨_, rfl, _, _, rfl, rfl, _, rfl, ite2 (fun h => ?_) fun h => ?_⟩
    · refine iteT ⟨_, rfl, _, rfl, ?_⟩
      exact last _ (by split <;> omega)
    · refine ⟨_, rfl, _, _, rfl, rfl, ⟨by decide, by decide, by decide⟩, _, _, rfl, rfl, _, rfl, ite2 (fun h' => ?_) fun h' => ?_⟩
      · exact ⟨_, rfl, _, rfl, last _ (by split <;> omega)⟩
      · exact last 0 (by decide)
theorem ok_draw {f : Addr} {fd : FuncData} (F : Fun K "_law_draw" "_law_draw" sDraw f fd) (B : Nb mg) : FnOk P w K mg base CX0 1 f fd ["_law_purse_here", "_law_many"] spDraw := by
  refine F.ok scDraw (fun vs H Q E h => ?_) (fun cdv A outer s H vs Q E hr h => ?_)
  · obtain ⟨p, m, f, c, n, rfl, _⟩ := h
    rfl
  · obtain ⟨p, m, f, c, n, rfl, hp, hm, hm2, hf, hc, hc2, hn, hn2, k⟩ := h
    have nd := scDraw.nd
    refine ⟨_, pss_cons (ps_asg (pe_op op_add (pe_ix ix_list (pv 0) pe_int (fun _ _ => rfl)) pe_int) (pg_sub (pv 0) pe_int set_list))
      (pss_cons (ps_set (i := 2) nd rfl (Or.inl rfl) (pe_callTy call_int1 (by rfl) B.int (by decide +kernel) (pa_cons (pe_ix ix_list (pv 0) pe_int (fun _ _ => rfl)) pa_nil)))
      (pss_cons (ps_asg (pe_op op_mod (pe_callTy call_int1 (by rfl) B.int (by decide +kernel) (pa_cons (pe_op op_add (pe_op op_add (pe_op op_mul (pv 2) (pe_op op_add (pe_op op_mod (pe_callTy call_int1 (by rfl) B.int (by decide +kernel) (pa_cons (pv 2) pa_nil)) pe_int) pe_int)) (pe_op op_mul pe_int (pe_ix ix_list (pv 0) pe_int (fun _ _ => rfl)))) pe_int) pa_nil)) pe_int) (pg_sub (pv 0) pe_int set_list))
      (pss_cons (ps_if (pt_cmpR op_gt (pe_ix ix_list (pv 0) pe_int (fun _ _ => rfl)) pe_int (nomark _))
          (pss_cons (ps_set (i := 3) nd rfl (Or.inl rfl) (pe_op op_mod (pe_callTy call_int1 (by rfl) B.int (by decide +kernel) (pa_cons (pe_ix ix_list (pv 0) pe_int (fun _ _ => rfl)) pa_nil)) (pv 1)))
          (pss_cons (ps_asg (pe_op op_fdivW (pe_ix ix_list (pv 0) pe_int (fun _ _ => rfl)) (pv 1)) (pg_sub (pv 0) pe_int set_list))
          (pss_one (ps_ret (pv 3))))) pss_nil)
      (pss_one (ps_ret (pe_op op_mod (pe_callTy call_int1 (by rfl) B.int (by decide +kernel) (pa_cons (pe_op op_fdiv (pe_ix ix_list (pv 0) pe_int (fun _ _ => rfl)) pe_int) pa_nil)) (pv 1))))))), ?_⟩
    -- purse[2] = purse[2] + 1
    refine ⟨_, rfl, p, _, _, _, rfl, rfl, SqL.of hp, rfl, _, _, rfl, rfl, _, rfl, p, _, _, 2, rfl, rfl, hp, rfl, ?_⟩
    have h1 : (upd H p (.lst [.int m, .int f, .int (c + 1)])) p = some (.lst [.int m, .int f, .int (c + 1)]) := upd_same
    -- seed
    refine ⟨_, rfl, p, _, _, _, rfl, rfl, SqL.of h1, rfl, .inl ⟨_, rfl, ?_⟩⟩
    have hx := modPM (m * (m % 30011 + 20011) + 65537 * (c + 1) + 7)
    have hb : (-(2 ^ 64 : Int)) < m ∧ m < 2 ^ 64 := by constructor <;> (have : PM = 2147483029 := rfl; omega)
    refine ⟨_, rfl, _, rfl, .inl ⟨_, rfl, _, _, rfl, rfl, (by show (0 : Int) < 30011; decide), _, _, rfl, rfl, _, _, rfl, rfl, .inl hb, _, rfl, p, _, _, _, rfl, rfl, SqL.of h1, rfl, _, _, rfl, rfl, .inl ⟨by decide, by decide⟩, _, _, rfl, rfl, _, _, rfl, rfl, .inl ⟨_, rfl, _, _, rfl, rfl, (by show (0 : Int) < 2147483029; decide), _, rfl, p, _, _, 0, rfl, rfl, h1, rfl, ?_⟩⟩⟩
    have h2 : (upd (upd H p (.lst [.int m, .int f, .int (c + 1)])) p (.lst [.int ((m * (m % 30011 + 20011) + 65537 * (c + 1) + 7) % 2147483029), .int f, .int (c + 1)])) p = some (.lst [.int ((m * (m % 30011 + 20011) + 65537 * (c + 1) + 7) % 2147483029), .int f, .int (c + 1)]) := upd_same
    have hnb : n.natAbs < 2 ^ 67 := by
      have z : (10 : Int) ^ 20 < 2 ^ 67 := by decide
      omega
    refine ⟨_, rfl, p, _, _, _, rfl, rfl, SqL.of h2, rfl, _, _, rfl, rfl, _, rfl, ite2 (fun hg => ?_) fun hg => ?_⟩
    · refine ⟨_, rfl, p, _, _, _, rfl, rfl, SqL.of h2, rfl, .inl ⟨_, rfl, _, rfl, _, _, rfl, rfl, hn, ?_⟩⟩
      refine ⟨_, rfl, p, _, _, _, rfl, rfl, SqL.of h2, rfl, _, rfl, _, _, rfl, rfl, wide_div hn hnb (by decide) (by decide), _, rfl, p, _, _, 1, rfl, rfl, h2, rfl, ?_⟩
      refine ⟨_, rfl, ?_⟩
      have r := k _ (f / n) (f % n) hx.1 hx.2 (Int.ediv_nonneg hf (by omega)) (Int.emod_nonneg _ (by omega)) (Int.emod_lt_of_pos _ hn)
      rw [← upd_upd (o := .lst [.int ((m * (m % 30011 + 20011) + 65537 * (c + 1) + 7) % 2147483029), .int f, .int (c + 1)]), ← upd_upd (H := H) (o := .lst [.int m, .int f, .int (c + 1)])] at r
      exact r
    · refine ⟨_, rfl, p, _, _, _, rfl, rfl, SqL.of h2, rfl, _, _, rfl, rfl, ⟨by decide, by decide⟩, .inl ⟨_, rfl, _, rfl, _, _, rfl, rfl, hn, ?_⟩⟩
      have r := k _ f ((m * (m % 30011 + 20011) + 65537 * (c + 1) + 7) % 2147483029 / 32 % n) hx.1 hx.2 hf (Int.emod_nonneg _ (by omega)) (Int.emod_lt_of_pos _ hn)
      rw [← upd_upd (H := H) (o := .lst [.int m, .int f, .int (c + 1)])] at r
      exact r
theorem cut_ints (ns : List Int) (lo hi : Option Int) : ∃ ms : List Int, cutV (ns.map V.int) lo hi = ms.map V.int := by
  unfold cutV
  exact ⟨(ns.drop (HT.sIx (ns.map V.int).length 0 lo)).take (HT.sIx (ns.map V.int).length (ns.map V.int).length hi - HT.sIx (ns.map V.int).length 0 lo), by rw [List.map_take, List.map_drop]⟩
theorem ok_cell {f : Addr} {fd : FuncData} (F : Fun K "_law_cell" "_law_cell" sCell f fd) (B : Nb mg) : FnOk P w K mg base CX0 1 f fd ["_law_cells", "_law_k"] (spCell K) := by
  refine F.ok scCell (fun vs H Q E h => ?_) (fun cdv A outer s H vs Q E hr h => ?_)
  · obtain ⟨a, ns, k, rfl, _⟩ := h
    rfl
  · obtain ⟨a, ns, k, rfl, ha, hl, hk, q⟩ := h
    have nd := scCell.nd
    refine ⟨_, pss_cons (ps_if (pt_cmpR op_lt (pv 1) (pe_callB call_len (by rfl) B.len boot_len (pa_cons (pv 0) pa_nil)) (nomark _)) (pss_one (ps_ret (pe_callTy call_int1 (by rfl) B.int (by decide +kernel) (pa_cons (pe_ix ix_list (pv 0) (pv 1) (fun _ _ => rfl)) pa_nil)))) pss_nil)
      (pss_cons (ps_set (i := 2) nd rfl (Or.inl rfl) (pe_op op_mod (pe_callTy call_int1 (by rfl) B.int (by decide +kernel) (pa_cons (pe_op op_mul pe_int (pe_op op_add (pe_op op_add (pe_op op_mul (pv 1) (pv 1)) (pe_op op_mul pe_int (pv 1))) pe_int)) pa_nil)) pe_int))
      (pss_cons (ps_for PassesOwn.never rfl (pi_list (pe_slice sl_list (pv 0) po_none (po_some pe_int))) (pg_name (i := 3) nd rfl (Or.inl rfl))
        (pss_one (ps_set (i := 2) nd rfl (Or.inl rfl) (pe_op op_mod (pe_callTy call_int1 (by rfl) B.int (by decide +kernel) (pa_cons (pe_op op_add (pe_op op_mul (pv 2) pe_int) (pe_callTy call_int1 (by rfl) B.int (by decide +kernel) (pa_cons (pv 3) pa_nil))) pa_nil)) pe_int))))
      (pss_one (ps_ret (pv 2))))), ?_⟩
    have hkb : (-(2 ^ 64 : Int)) < (k : Int) ∧ (k : Int) < 2 ^ 64 := by constructor <;> omega
    refine ⟨_, rfl, _, rfl, _, _, rfl, .inl ⟨_, ha, rfl⟩, _, _, rfl, rfl, _, rfl, ite2 (fun h => ?_) fun h => ?_⟩
    · have hlt : k < ns.length := by
        have z := of_decide_eq_true h
        rw [List.length_map] at z
        omega
      have e1 : (ns.map V.int)[k]? = some (V.int ns[k]) := by rw [List.getElem?_map, List.getElem?_eq_getElem hlt]; rfl
      exact ⟨_, rfl, _, rfl, a, _, _, _, rfl, rfl, ha, atI_nat e1, .inl ⟨_, rfl, q _ H (Same.refl H)⟩⟩
    · refine ⟨_, rfl, _, rfl, _, _, rfl, rfl, .inl hkb, _, rfl, _, _, rfl, rfl, .inl ⟨by decide, by decide⟩, _, _, rfl, rfl, _, _, rfl, rfl, _, _, rfl, rfl, .inl ⟨by decide, by decide⟩, .inl ⟨_, rfl, _, _, rfl, rfl, (by show (0 : Int) < 2147483029; decide), ?_⟩⟩
      refine ⟨_, rfl, _, rfl, a, _, rfl, ha, fun p np => ?_⟩
      obtain ⟨ms, hms⟩ := cut_ints ns none (some 3)
      refine ⟨p, rfl, ⟨_, SqL.of upd_same⟩, for_list (K := K) (a := p) (xs := cutV (ns.map V.int) none (some 3)) (fun i σ H' => H' = upd H p (.lst (cutV (ns.map V.int) none (some 3))) ∧ ∃ (z : Int) (x : Option V), 0 ≤ z ∧ z < PM ∧ σ = [some (.ref a), some (.int (k : Int)), some (.int z), x]) ?_ ?_ ?_ ?_⟩
      · exact ⟨rfl, _, none, (modPM _).1, (modPM _).2, rfl⟩
      · rintro i σ H' _ ⟨rfl, _⟩
        exact SqL.of upd_same
      · rintro i x σ H' hx ⟨rfl, z, y, hz, hz2, rfl⟩
        rw [hms, List.getElem?_map] at hx
        cases e : ms[i]? with
        | none => rw [e] at hx; cases hx
        | some n =>
          rw [e] at hx
          cases hx
          have hb : (-(2 ^ 64 : Int)) < z ∧ z < 2 ^ 64 := by constructor <;> (have : PM = 2147483029 := rfl; omega)
          exact ⟨_, rfl, _, _, rfl, rfl, .inl hb, _, rfl, .inl ⟨_, rfl, _, _, rfl, rfl, .inl ⟨_, rfl, _, _, rfl, rfl, (by show (0 : Int) < 2147483029; decide), rfl, _, _, (modPM _).1, (modPM _).2, rfl⟩⟩⟩
      · rintro σ H' ⟨rfl, z, y, hz, hz2, rfl⟩
        exact ⟨_, rfl, q z _ (fun b o e => by rw [upd_ne (ne_of_none e np)]; exact e)⟩
end
end L2.EK

namespace L2.EK
open PySem PySem.Spec PyProof.Rows
abbrev sThing : Stmt := topS' 33
def Thing (H : Hp) (v : V) : Prop :=
  (∃ i : Int, v = .int i ∧ i.natAbs < 10 ^ 20) ∨ (∃ n : Nat, v = .str (Str.ofString (toString (n : Int))) ∧ n < 10 ^ 20) ∨ (∃ (a : Addr) (i : Int), v = .ref a ∧ H a = some (.tup [.int i, .str "a"]) ∧ i.natAbs < 10 ^ 20) ∨
  (∃ (a : Addr) (i : Int), v = .ref a ∧ H a = some (.lst [.int i]) ∧ i.natAbs < 10 ^ 20) ∨ (∃ (a : Addr) (i : Int), v = .ref a ∧ H a = some (.dK [(Sum.inl i, .non)]) ∧ i.natAbs < 10 ^ 20) ∨ v = .non ∨ v = .bl true ∨
  (∃ (a b c : Addr) (i : Int), v = .ref a ∧ H a = some (.tup [.ref b, .ref c]) ∧ H b = some (.tup [.int i]) ∧ H c = some (.lst []) ∧ i.natAbs < 10 ^ 20)
theorem Thing.same {H H' : Hp} {v : V} (t : Thing H v) (s : Same H H') : Thing H' v := by
  rcases t with t | t | ⟨a, i, e, h, b⟩ | ⟨a, i, e, h, b⟩ | ⟨a, i, e, h, b⟩ | t | t | ⟨a, b, c, i, e, h1, h2, h3, hb⟩
  · exact .inl t
  · exact .inr (.inl t)
  · exact .inr (.inr (.inl ⟨a, i, e, s _ _ h, b⟩))
  · exact .inr (.inr (.inr (.inl ⟨a, i, e, s _ _ h, b⟩)))
  · exact .inr (.inr (.inr (.inr (.inl ⟨a, i, e, s _ _ h, b⟩))))
  · exact .inr (.inr (.inr (.inr (.inr (.inl t)))))
  · exact .inr (.inr (.inr (.inr (.inr (.inr (.inl t))))))
  · exact .inr (.inr (.inr (.inr (.inr (.inr (.inr ⟨a, b, c, i, e, s _ _ h1, s _ _ h2, s _ _ h3, hb⟩))))))
def KeepBut (p : Addr) (H H' : Hp) : Prop := ∀ b o, b ≠ p → H b = some o → H' b = some o
theorem KeepBut.then {p : Addr} {H H1 H2 : Hp} (k : KeepBut p H H1) (s : Same H1 H2) : KeepBut p H H2 := fun b o n e => s b o (k b o n e)
def spThing : Sp := fun vs H Q _ => ∃ (p : Addr) (m f c : Int), vs = [.ref p] ∧ H p = some (.lst [.int m, .int f, .int c]) ∧ 0 ≤ m ∧ m < PM ∧ 0 ≤ f ∧ 0 ≤ c ∧ c ≤ 100 ∧
  ∀ (v : V) H', KeepBut p H H' → Thing H' v → Q v H'
theorem scThing : FnScope ["_law_purse_here", "_law_way", "_law_size", "_law_some"] ["_law_purse_here"] (defScope sThing) := ⟨rfl, rfl, rfl, by decide +kernel, rfl, by decide +kernel, by decide +kernel⟩
theorem ofD (n : Nat) : Str.ofString (toString ((n : Nat) : Int)) = Str.ofString (toString (n : Int)) := rfl
section
variable {P : Program} {w : World} {K : PySem.W.Frag} {mg : Str → Option Value} {base : Heap}
theorem ok_thing {f fD : Addr} {fd fdD : FuncData} (F : Fun K "_law_thing" "_law_thing" sThing f fd) (B : Nb mg) (FD : FnOk P w K mg base CX0 1 fD fdD ["_law_purse_here", "_law_many"] spDraw) (bD : Binds K fdD ["_law_purse_here", "_law_many"] []) (mD : mg "_law_draw" = some (.ref fD)) (kD : PySem.W.keepIn K (.ref fD) = true) :
    FnOk P w K mg base CX0 2 f fd ["_law_purse_here"] spThing := by
  refine F.ok scThing (fun vs H Q E h => ?_) (fun cdv A outer s H vs Q E hr h => ?_)
  · obtain ⟨p, m, f, c, rfl, _⟩ := h
    rfl
  · obtain ⟨p, m, f, c, rfl, hp, hm, hm2, hf, hc, hc2, k⟩ := h
    have nd := scThing.nd
    refine ⟨_, pss_cons (ps_par (i := 1) (j := 2) (by rfl) nd rfl rfl (by decide) rfl rfl (pa_cons (pe_call FD hr rfl mD kD bD .nil pass0 (pa_cons (pv 0) (pa_cons pe_int pa_nil))) (pa_cons (pe_call FD hr rfl mD kD bD .nil pass0 (pa_cons (pv 0) (pa_cons (pe_op op_pow pe_int pe_int) pa_nil))) pa_nil)) (by rfl))
      (pss_cons (ps_set (i := 3) nd rfl (Or.inl rfl) (pe_lst (pa_cons (pv 2) (pa_cons (pe_un un_neg (pv 2)) (pa_cons (pe_callTy call_str_int (by rfl) B.str (by decide +kernel) (pa_cons (pv 2) pa_nil)) (pa_cons (pe_tup (pa_cons (pv 2) (pa_cons pe_str pa_nil))) (pa_cons (pe_lst (pa_cons (pv 2) pa_nil))
          (pa_cons (pe_disp (pps_cons (pv 2) pe_non pps_nil) (by rfl) (by rfl) (fun z => by cases z) (by decide)) (pa_cons pe_non (pa_cons pe_bl pa_nil))))))))))
      (pss_cons (ps_expr (pe_bm PySem.F.plainAttrs_list PySem.F.slot_list_append PySem.F.type_list_append mt_append (pv 3) (pa_cons (pe_tup (pa_cons (pe_tup (pa_cons (pv 2) pa_nil)) (pa_cons (pe_lst pa_nil) pa_nil))) pa_nil)))
      (pss_one (ps_ret (pe_ix ix_list (pv 3) (pv 1) (fun _ _ => rfl)))))), ?_⟩
    -- the two draws
    refine ⟨_, rfl, p, m, f, c, 9, rfl, hp, hm, hm2, hf, hc, by omega, by decide, by decide, fun m1 f1 way h1 h2 h3 hw hw2 => ?_⟩
    refine ⟨_, rfl, _, _, rfl, rfl, ⟨by decide, by decide, by decide⟩, p, m1, f1, c + 1, _, rfl, upd_same, h1, h2, h3, by omega, by omega, by decide, by decide, fun m2 f2 size g1 g2 g3 hs hs2 => ?_⟩
    have hs3 : size.natAbs < 10 ^ 20 := by
      have z : ((10 : Int) ^ Int.toNat 20) = 100000000000000000000 := by decide
      rw [z] at hs2
      have z2 : (10 : Nat) ^ 20 = 100000000000000000000 := by decide
      omega
    have hs4 : (-size).natAbs < 10 ^ 20 := by rw [Int.natAbs_neg]; exact hs3
    have hlg : size.natAbs.log2 < 1920 := Nat.lt_trans (PySem.Flt.log2_lt_of (k := 67) (by decide) (Nat.lt_of_lt_of_le hs3 (by decide))) (by decide)
    obtain ⟨H0, hH0⟩ : ∃ H0, H0 = upd (upd H p (.lst [.int m1, .int f1, .int (c + 1)])) p (.lst [.int m2, .int f2, .int (c + 1 + 1)]) := ⟨_, rfl⟩
    have k0 : KeepBut p H H0 := fun b o n e => by rw [hH0, upd_ne n, upd_ne n]; exact e
    refine ⟨_, _, rfl, ?_⟩
    rw [← hH0]
    refine ⟨_, rfl, _, rfl, _, rfl, _, rfl, _, rfl, hlg, _, rfl, by show 2 ≤ sizeLine; decide, fun t1 n1 => ⟨_, rfl, by show 1 ≤ sizeLine; decide, fun l1 n2 => ?_⟩⟩
    refine fun d1 n3 => ⟨_, rfl, upd_same, [(Sum.inl size, .non)], rfl, by show 1 ≤ 15; decide, by show 8 ≤ sizeLine; decide, fun L nL => ?_⟩
    obtain ⟨H3, hH3⟩ : ∃ H3, H3 = upd (upd (upd (upd H0 t1 (.tup [.int size, .str "a"])) l1 (.lst [.int size])) d1 (.dK [])) d1 (.dK (mergeK [] [(Sum.inl size, .non)])) := ⟨_, rfl⟩
    have e3 : H3 = upd (upd (upd H0 t1 (.tup [.int size, .str "a"])) l1 (.lst [.int size])) d1 (.dK [(Sum.inl size, .non)]) := by rw [hH3, upd_upd]; rfl
    have s03 : Same H0 H3 := by rw [e3]; exact sameUp (sameUp (sameUp (Same.refl H0) n1) n2) n3
    have a1 : H3 t1 = some (.tup [.int size, .str "a"]) := by
      have z1 : (upd H0 t1 (.tup [.int size, .str "a"])) t1 = some (.tup [.int size, .str "a"]) := upd_same
      have z2 := sameUp (o := .lst [.int size]) (Same.refl _) n2 _ _ z1
      rw [e3]; exact sameUp (o := .dK [(Sum.inl size, .non)]) (Same.refl _) n3 _ _ z2
    have a2 : H3 l1 = some (.lst [.int size]) := by
      have z2 : (upd (upd H0 t1 (.tup [.int size, .str "a"])) l1 (.lst [.int size])) l1 = some (.lst [.int size]) := upd_same
      rw [e3]; exact sameUp (o := .dK [(Sum.inl size, .non)]) (Same.refl _) n3 _ _ z2
    have a3 : H3 d1 = some (.dK [(Sum.inl size, .non)]) := by rw [e3]; exact upd_same
    have nL' : H3 L = none := by rw [hH3]; exact nL
    rw [← hH3]
    clear hH3 e3 nL
    -- the list, what is appended
    obtain ⟨H4, hH4⟩ : ∃ H4, H4 = upd H3 L (.lst [V.int size, V.int (-size), V.str (Str.ofString (toString size)), V.ref t1, V.ref l1, V.ref d1, V.non, V.bl true]) := ⟨_, rfl⟩
    have s34 : Same H3 H4 := by rw [hH4]; exact sameUp (Same.refl H3) nL'
    have aL : H4 L = some (.lst [V.int size, V.int (-size), V.str (Str.ofString (toString size)), V.ref t1, V.ref l1, V.ref d1, V.non, V.bl true]) := by rw [hH4]; exact upd_same
    show tSeq _ _ _ _ (upd H3 L (.lst [V.int size, V.int (-size), V.str (Str.ofString (toString size)), V.ref t1, V.ref l1, V.ref d1, V.non, V.bl true]))
    rw [← hH4]
    have ne1 : t1 ≠ L := ne_of_none a1 nL'
    have ne2 : l1 ≠ L := ne_of_none a2 nL'
    have ne3 : d1 ≠ L := ne_of_none a3 nL'
    refine ⟨_, rfl, .inl ⟨rfl, _, SqL.of aL⟩, _, rfl, by show 1 ≤ sizeLine; decide, fun t2 n4 => ⟨by show 0 ≤ sizeLine; decide, fun l2 n5 => ⟨by show 2 ≤ sizeLine; decide, fun t3 n6 => ?_⟩⟩⟩
    obtain ⟨H7, hH7⟩ : ∃ H7, H7 = upd (upd (upd H4 t2 (.tup [.int size])) l2 (.lst [])) t3 (.tup [.ref t2, .ref l2]) := ⟨_, rfl⟩
    have s47 : Same H4 H7 := by rw [hH7]; exact sameUp (sameUp (sameUp (Same.refl H4) n4) n5) n6
    have c1 : H7 t2 = some (.tup [.int size]) := by
      have z1 : (upd H4 t2 (.tup [.int size])) t2 = some (.tup [.int size]) := upd_same
      have z2 := sameUp (o := .lst []) (Same.refl _) n5 _ _ z1
      rw [hH7]; exact sameUp (o := .tup [.ref t2, .ref l2]) (Same.refl _) n6 _ _ z2
    have c2 : H7 l2 = some (.lst []) := by
      have z2 : (upd (upd H4 t2 (.tup [.int size])) l2 (.lst [])) l2 = some (.lst []) := upd_same
      rw [hH7]; exact sameUp (o := .tup [.ref t2, .ref l2]) (Same.refl _) n6 _ _ z2
    have c3 : H7 t3 = some (.tup [.ref t2, .ref l2]) := by rw [hH7]; exact upd_same
    have m1 : t2 ≠ L := Ne.symm (ne_of_none aL n4)
    have m2 : l2 ≠ L := Ne.symm (ne_of_none (sameUp (o := .tup [.int size]) (Same.refl _) n4 _ _ aL) n5)
    have m3 : t3 ≠ L := Ne.symm (ne_of_none (sameUp (o := .lst []) (sameUp (o := .tup [.int size]) (Same.refl _) n4) n5 _ _ aL) n6)
    have aL7 := s47 _ _ aL
    refine ⟨L, _, .ref t3, rfl, rfl, by rw [← hH7]; exact aL7, by show 8 < sizeLine; decide, ?_⟩
    rw [← hH7]
    obtain ⟨H8, hH8⟩ : ∃ H8, H8 = upd H7 L (.lst ([V.int size, V.int (-size), V.str (Str.ofString (toString size)), V.ref t1, V.ref l1, V.ref d1, V.non, V.bl true] ++ [.ref t3])) := ⟨_, rfl⟩
    rw [← hH8]
    have at8 : ∀ b o, b ≠ L → H7 b = some o → H8 b = some o := fun b o n e => by rw [hH8, upd_ne n]; exact e
    have aL8 : H8 L = some (.lst ([V.int size, V.int (-size), V.str (Str.ofString (toString size)), V.ref t1, V.ref l1, V.ref d1, V.non, V.bl true] ++ [.ref t3])) := by rw [hH8]; exact upd_same
    have keep : KeepBut p H H8 := fun b o n e => by
      have z := s34 _ _ (s03 _ _ (k0 b o n e))
      exact at8 b o (ne_of_none (s03 _ _ (k0 b o n e)) nL') (s47 _ _ z)
    have u1 := at8 _ _ ne1 (s47 _ _ (s34 _ _ a1))
    have u2 := at8 _ _ ne2 (s47 _ _ (s34 _ _ a2))
    have u3 := at8 _ _ ne3 (s47 _ _ (s34 _ _ a3))
    have v1 := at8 _ _ m1 c1
    have v2 := at8 _ _ m2 c2
    have v3 := at8 _ _ m3 c3
    have hway : way = ((way.toNat : Nat) : Int) := (Int.toNat_of_nonneg hw).symm
    have hn : size = ((size.toNat : Nat) : Int) := (Int.toNat_of_nonneg hs).symm
    have hw9 : way.toNat < 9 := by omega
    generalize way.toNat = y at hway hw9
    subst hway
    have fin : ∀ x, ([V.int size, V.int (-size), V.str (Str.ofString (toString size)), V.ref t1, V.ref l1, V.ref d1, V.non, V.bl true] ++ [.ref t3])[y]? = some x → Thing H8 x := fun x hx => by
      have hy : y = 0 ∨ y = 1 ∨ y = 2 ∨ y = 3 ∨ y = 4 ∨ y = 5 ∨ y = 6 ∨ y = 7 ∨ y = 8 := by omega
      rcases hy with rfl | rfl | rfl | rfl | rfl | rfl | rfl | rfl | rfl <;> cases hx
      · exact .inl ⟨_, rfl, hs3⟩
      · exact .inl ⟨_, rfl, hs4⟩
      · exact .inr (.inl ⟨size.toNat, by rw [← hn], by omega⟩)
      · exact .inr (.inr (.inl ⟨t1, size, rfl, u1, hs3⟩))
      · exact .inr (.inr (.inr (.inl ⟨l1, size, rfl, u2, hs3⟩)))
      · exact .inr (.inr (.inr (.inr (.inl ⟨d1, size, rfl, u3, hs3⟩))))
      · exact .inr (.inr (.inr (.inr (.inr (.inl rfl)))))
      · exact .inr (.inr (.inr (.inr (.inr (.inr (.inl rfl))))))
      · exact .inr (.inr (.inr (.inr (.inr (.inr (.inr ⟨t3, t2, l2, size, rfl, v3, v1, v2, hs3⟩))))))
    have hlen : y < ([V.int size, V.int (-size), V.str (Str.ofString (toString size)), V.ref t1, V.ref l1, V.ref d1, V.non, V.bl true] ++ [V.ref t3]).length := hw9
    have e1 := List.getElem?_eq_getElem hlen
    exact ⟨_, rfl, _, rfl, L, _, _, _, rfl, rfl, SqL.of aL8, atI_nat e1, k _ _ keep (fin _ e1)⟩
end
end L2.EK

namespace L2.EK
open PySem PySem.Spec PyProof.Rows
def rRepA (K : PySem.W.Frag) : List V → Hp → VK → Prop := fun xs H Q => rRep K xs H Q ∨ rRepD xs H Q
theorem call_repA {X : Cx} (hG : X.A.guards = some []) (hu : X.A.units + 64 < cLine) : CallR X (.builtin "repr") (rRepA X.K) := by
  intro pins s σ H xs us Q I r h
  rcases h with h | h
  · exact call_rep hG hu pins s σ H xs us Q I r h
  · exact call_repD hG hu pins s σ H xs us Q I r h
theorem numLen {i : Int} (h : i.natAbs < 10 ^ 20) : (Str.ofString (toString i)).length ≤ 21 := by
  rw [PySem.ofString_length]
  exact int_text_length_le10 (k := 20) (by decide) h
theorem log_small {i : Int} (h : i.natAbs < 10 ^ 20) : i.natAbs.log2 < 1920 := Nat.lt_trans (PySem.Flt.log2_lt_of (k := 67) (by decide) (Nat.lt_of_lt_of_le h (by decide))) (by decide)
theorem numRepr {n : Nat} (h : n < 10 ^ 20) : (reprText (Str.ofString (toString (n : Int)))).length ≤ 300 := by
  have l := numLen (i := (n : Int)) (by simpa using h)
  have d : ∀ c ∈ (Str.ofString (toString (n : Int))).cps.toList, c < 16 ^ 8 := fun c hc => by
    have e : (Str.ofString (toString ((n : Nat) : Int))).cps.toList = TL.numL n := TL.tl_num n
    rw [e] at hc
    have z := TL.numL_digits n c hc
    exact Nat.lt_of_le_of_lt z.2 (by decide)
  have q := StrLaws.reprText_len _ d
  omega
theorem tupLen (ts : List Str) (h : ts ≠ []) : (tupleText ts).length ≤ piled ts + 1 := by
  unfold tupleText
  rw [strLen_append, strLen_append]
  have q := join_length_add ts h
  have e1 : ((("(" : String) : Str)).length = 1 := rfl
  have e2 : (((if ts.length == 1 then ",)" else ")" : String) : Str)).length ≤ 2 := by split <;> decide
  omega
theorem lstLen (t : Str) : (listText [t]).length = t.length + 2 := by
  have e : listText [t] = ("[" : Str) ++ ("" : Str) ++ t ++ ("]" : Str) := rfl
  rw [e, strLen_append, strLen_append, strLen_append]
  have e1 : (("[" : Str)).length = 1 := rfl
  have e2 : (("" : Str)).length = 0 := rfl
  have e3 : (("]" : Str)).length = 1 := rfl
  omega
theorem piled2 (a b : Str) : piled [a, b] = a.length + 2 + (b.length + 2) := by simp [piled]
theorem piled1 (a : Str) : piled [a] = a.length + 2 := by simp [piled]
theorem repThing {K : PySem.W.Frag} {H : Hp} {v : V} (t : Thing H v) : ∃ z : Str, ∀ (H' : Hp) (Q : VK), Same H H' → Q (.str z) H' → rRepA K [v] H' Q := by
  have hsz := sizeLine_eq
  rcases t with ⟨i, rfl, b⟩ | ⟨n, rfl, b⟩ | ⟨a, i, rfl, h, b⟩ | ⟨a, i, rfl, h, b⟩ | ⟨a, i, rfl, h, b⟩ | rfl | rfl | ⟨a, c, l, i, rfl, h1, h2, h3, b⟩
  · refine ⟨PyData.shown (.int i), fun H' Q s q => .inl ⟨_, .int i, rfl, .int i, ?_, rfl, Nat.zero_le _, ?_, q⟩⟩
    · simp [PyData.showable, log_small b]
    · have := numLen b
      show (Str.ofString (toString i)).length ≤ _
      omega
  · refine ⟨PyData.shown (.str (Str.ofString (toString (n : Int)))), fun H' Q s q => .inl ⟨_, .str _, rfl, .str _, rfl, rfl, Nat.zero_le _, ?_, q⟩⟩
    have := numRepr b
    show (reprText (Str.ofString (toString (n : Int)))).length ≤ _
    omega
  · refine ⟨PyData.shown (.tuple [.int i, .str "a"]), fun H' Q s q => .inl ⟨_, .tuple [.int i, .str "a"], rfl, .tup (SqT.of (s _ _ h)) (.cons (.int i) (.cons (.str _) .nil)), ?_, rfl, by simp [PyData.depth, PyData.depthAll], ?_, q⟩⟩
    · simp [PyData.showable, PyData.showableAll, log_small b]
    · show (tupleText [Str.ofString (toString i), reprText "a"]).length ≤ _
      have y := tupLen [Str.ofString (toString i), reprText "a"] (by simp)
      rw [piled2] at y
      have e := numLen b
      have e2 : (reprText "a").length = 3 := by decide +kernel
      omega
  · refine ⟨PyData.shown (.list [.int i]), fun H' Q s q => .inl ⟨_, .list [.int i], rfl, .lst (SqL.of (s _ _ h)) (.cons (.int i) .nil), ?_, rfl, by simp [PyData.depth, PyData.depthAll], ?_, q⟩⟩
    · simp [PyData.showable, PyData.showableAll, log_small b]
    · show (listText [Str.ofString (toString i)]).length ≤ _
      rw [lstLen]
      have e := numLen b
      omega
  · refine ⟨PyData.shown (.dict [(.int i, .none)]), fun H' Q s q => .inr ⟨a, i, rfl, s _ _ h, log_small b, ?_, q⟩⟩
    show (("{" : Str) ++ (Str.ofString (toString i) ++ (": " : Str) ++ ("None" : Str)) ++ ("}" : Str)).length ≤ _
    rw [strLen_append, strLen_append, strLen_append, strLen_append]
    have e := numLen b
    have e1 : (("{" : Str)).length = 1 := rfl
    have e2 : ((": " : Str)).length = 2 := rfl
    have e3 : (("None" : Str)).length = 4 := rfl
    have e4 : (("}" : Str)).length = 1 := rfl
    omega
  · exact ⟨PyData.shown .none, fun H' Q s q => .inl ⟨_, .none, rfl, .non, rfl, rfl, Nat.zero_le _, by decide, q⟩⟩
  · exact ⟨PyData.shown (.bool true), fun H' Q s q => .inl ⟨_, .bool true, rfl, .bl true, rfl, rfl, Nat.zero_le _, by decide, q⟩⟩
  · refine ⟨PyData.shown (.tuple [.tuple [.int i], .list []]), fun H' Q s q => .inl ⟨_, .tuple [.tuple [.int i], .list []], rfl, .tup (SqT.of (s _ _ h1)) (.cons (.tup (SqT.of (s _ _ h2)) (.cons (.int i) .nil)) (.cons (.lst (SqL.of (s _ _ h3)) .nil) .nil)), ?_, rfl, by simp [PyData.depth, PyData.depthAll], ?_, q⟩⟩
    · simp [PyData.showable, PyData.showableAll, log_small b]
    · show (tupleText [tupleText [Str.ofString (toString i)], listText []]).length ≤ _
      have y := tupLen [tupleText [Str.ofString (toString i)], listText []] (by simp)
      rw [piled2] at y
      have y2 := tupLen [Str.ofString (toString i)] (by simp)
      rw [piled1] at y2
      have e := numLen b
      have e2 : (listText []).length = 2 := by decide +kernel
      omega
end L2.EK

namespace L2.EK
open PySem PySem.Spec PyProof.Rows
abbrev sRight : Stmt := topS' 34
def spRight : Sp := fun vs H Q _ => ∃ (p : Addr) (m f c : Int), vs = [.ref p] ∧ H p = some (.lst [.int m, .int f, .int c]) ∧ 0 ≤ m ∧ m < PM ∧ 0 ≤ f ∧ 0 ≤ c ∧ c ≤ 100 ∧ ∀ H', KeepBut p H H' → Q (.bl true) H'
theorem scRight : FnScope ["_law_purse_here", "_law_thing_here", "_law_at", "_law_e"] ["_law_purse_here"] (defScope sRight) := ⟨rfl, rfl, rfl, by decide +kernel, rfl, by decide +kernel, by decide +kernel⟩
theorem notIn_all : ∀ i : Nat, i < 17 → inV (.int (i : Int)) [.int 12, .int 13, .int 15, .int 16] = !hasF i := by decide
section
variable {P : Program} {w : World} {K : PySem.W.Frag} {mg : Str → Option Value} {base : Heap} {C : Nat → Addr}
/-- the defs that _law_right calls -/
structure Cs (P : Program) (w : World) (K : PySem.W.Frag) (mg : Str → Option Value) (base : Heap) (x : Str) (k : Nat) (ps : List Str) (sp : Sp) (f : Addr) (fd : FuncData) : Prop where
  ok : FnOk P w K mg base CX0 k f fd ps sp
  b : Binds K fd ps []
  m : mg x = some (.ref f)
  kp : PySem.W.keepIn K (.ref f) = true
theorem ok_right {f fT fP fN fE fF : Addr} {fd dT dP dN dE dF : FuncData} (F : Fun K "_law_right" "_law_right" sRight f fd) (rg : mg "range" = none) (rp : mg "repr" = none)
    (T : Cs P w K mg base "_law_thing" 2 ["_law_purse_here"] spThing fT dT) (Pl : Cs P w K mg base "_law_placed" 3 ["_law_at", "_law_thing_here"] (spMk C) fP dP) (Nm : Cs P w K mg base "_law_named" 3 ["_law_at", "_law_thing_here"] (spMk C) fN dN)
    (Er : Cs P w K mg base "_law_error" 1 ["_law_e"] (spErr C) fE dE) (Fl : Cs P w K mg base "_law_field" 1 ["_law_e", "_law_at"] (spField C) fF dF) : FnG P w K mg base CX0 4 f fd ["_law_purse_here"] spRight := by
  refine Fun.okG F scRight (fun vs H Q E h => ?_) (fun cdv A outer s H vs Q E hr hG h => ?_)
  · obtain ⟨p, m, f, c, rfl, _⟩ := h
    rfl
  · obtain ⟨p, m, f, c, rfl, hp, hm, hm2, hf, hc, hc2, k⟩ := h
    have nd := scRight.nd
    have r1 : Room 1 (A.deeper (envOfC "_law_right" (defScope sRight) s.heap.objs.size _ cdv)) := hr.mono (by decide)
    have r2 : Room 2 (A.deeper (envOfC "_law_right" (defScope sRight) s.heap.objs.size _ cdv)) := hr.mono (by decide)
    refine ⟨_, pss_cons (ps_set (i := 1) nd rfl (Or.inl rfl) (pe_call T.ok r2 rfl T.m T.kp T.b .nil pass0 (pa_cons (pv 0) pa_nil)))
      (pss_cons (ps_for PassesOwn.never rfl (pi_range1 rfl rg (pa_cons pe_int pa_nil)) (pg_name (i := 2) nd rfl (Or.inl rfl))
        (pss_one (ps_for PassesOwn.never rfl (pi_list (pe_lst (pa_cons (pe_call Pl.ok hr rfl Pl.m Pl.kp Pl.b .nil pass0 (pa_cons (pv 2) (pa_cons (pv 1) pa_nil))) (pa_cons (pe_call Nm.ok hr rfl Nm.m Nm.kp Nm.b .nil pass0 (pa_cons (pv 2) (pa_cons (pv 1) pa_nil))) pa_nil)))) (pg_name (i := 3) nd rfl (Or.inl rfl))
          (pss_cons (ps_if (pt_cmpR op_ne (pe_call Er.ok r1 rfl Er.m Er.kp Er.b .nil pass0 (pa_cons (pv 3) pa_nil)) (pv 2) (nomark _)) (pss_one (ps_ret pe_bl)) pss_nil)
          (pss_one (ps_if (PW.pt (pw_and (pt_cmpR op_notIn_seq (pv 2) (pe_lst (pa_cons pe_int (pa_cons pe_int (pa_cons pe_int (pa_cons pe_int pa_nil))))) (by rfl))
              (pw_and1 (pt_cmpR op_ne (pe_callB (call_repA hG hr.units) rfl rp (by decide +kernel) (pa_cons (pe_call Fl.ok r1 rfl Fl.m Fl.kp Fl.b .nil pass0 (pa_cons (pv 3) (pa_cons (pv 2) pa_nil))) pa_nil)) (pe_callB (call_repA hG hr.units) rfl rp (by decide +kernel) (pa_cons (pv 1) pa_nil)) (nomark _))))) (pss_one (ps_ret pe_bl)) pss_nil))))))
      (pss_one (ps_ret pe_bl))), ?_⟩
    refine ⟨_, rfl, p, m, f, c, rfl, hp, hm, hm2, hf, hc, hc2, fun v H1 kb th => ?_⟩
    obtain ⟨z, rep⟩ := repThing (K := K) th
    refine ⟨17, rfl, by decide, by decide, for_range (n := 17) (fun i σ H' => Same H1 H' ∧ ∃ x y, σ = [some (.ref p), some v, x, y]) ⟨Same.refl _, _, _, rfl⟩ ?_ ?_⟩
    · rintro i σ H2 hi ⟨s2, x, y, rfl⟩
      rw [Int.zero_add]
      refine ⟨_, rfl, _, rfl, i, v, rfl, hi, fun H3 e1 s3 x3 => ⟨_, rfl, _, rfl, i, v, rfl, hi, fun H4 e2 s4 x4 => ⟨by show 2 ≤ sizeLine; decide, fun l nl => ?_⟩⟩⟩
      have s5 : Same H4 (upd H4 l (.lst [.ref e1, .ref e2])) := sameUp (Same.refl _) nl
      have y1 : XV C v (upd H4 l (.lst [.ref e1, .ref e2])) e1 i := x3.same (s4.trans s5)
      have y2 : XV C v (upd H4 l (.lst [.ref e1, .ref e2])) e2 i := x4.same s5
      have hl : (upd H4 l (.lst [.ref e1, .ref e2])) l = some (.lst [.ref e1, .ref e2]) := upd_same
      have s15 : Same H1 (upd H4 l (.lst [.ref e1, .ref e2])) := ((s2.trans s3).trans s4).trans s5
      refine ⟨l, rfl, ⟨_, SqL.of upd_same⟩, for_list (K := K) (a := l) (xs := [.ref e1, .ref e2]) (fun _ σ H' => Same (upd H4 l (.lst [.ref e1, .ref e2])) H' ∧ ∃ y, σ = [some (.ref p), some v, some (.int (i : Int)), y]) ⟨Same.refl _, _, rfl⟩ ?_ ?_ ?_⟩
      · rintro j σ H' _ ⟨sj, _⟩
        exact SqL.of (sj _ _ hl)
      · rintro j w' σ H' hw ⟨sj, y, rfl⟩
        have hx : ∃ e, w' = .ref e ∧ XV C v H' e i := by
          match j, hw with
          | 0, hw => cases hw; exact ⟨e1, rfl, y1.same sj⟩
          | 1, hw => cases hw; exact ⟨e2, rfl, y2.same sj⟩
          | j + 2, hw => simp at hw
        obtain ⟨e, rfl, xe⟩ := hx
        refine ⟨_, rfl, e, i, rfl, hi, xe.at_, fun H6 s6 => ⟨_, rfl, rfl, _, rfl, iteNS rfl ?_⟩⟩
        refine ⟨_, rfl, by show 4 ≤ sizeLine; decide, fun l2 nl2 => ⟨l2, _, rfl, .inl (SqL.of upd_same), rfl, rfl, _, rfl, ?_⟩⟩
        have s7 : Same H6 (upd H6 l2 (.lst [.int 12, .int 13, .int 15, .int 16])) := sameUp (Same.refl _) nl2
        have hn := notIn_all i hi
        show (if (!inV (.int (i : Int)) [.int 12, .int 13, .int 15, .int 16]) = true then _ else _)
        rw [hn]
        cases hF : hasF i with
        | false =>
          refine iteF (iteF ?_)
          exact ⟨sj.trans (s6.trans s7), _, rfl⟩
        | true =>
          refine iteT ?_
          refine ⟨_, rfl, _, rfl, e, i, v, rfl, hi, hF, xe.same (s6.trans s7), fun H8 s8 => ?_⟩
          show rRepA K [v] H8 _
          have s18 : Same H1 H8 := s15.trans (sj.trans ((s6.trans s7).trans s8))
          refine rep H8 _ s18 ⟨_, rfl, ?_⟩
          show rRepA K [v] H8 _
          refine rep H8 _ s18 ⟨rfl, _, rfl, iteNS rfl ?_⟩
          exact ⟨sj.trans ((s6.trans s7).trans s8), _, rfl⟩
      · rintro σ H' ⟨sj, y, rfl⟩
        exact ⟨s15.trans sj, _, _, rfl⟩
    · rintro σ H2 ⟨s2, x, y, rfl⟩
      exact k _ (kb.then s2)
end
end L2.EK

namespace L2.EK
open PySem PySem.Spec PyProof.Rows
abbrev sLaw : Stmt := topS' 35
def CPowW (i j : Int) : Prop := 0 ≤ j ∧ (Builtin.Int.intBits i : Int) * j ≤ 2 ^ 27
def rPowW : R2 := fun x y H Q => ∃ i j z : Int, x = .int i ∧ y = .int j ∧ CPowW i j ∧ z = i ^ j.toNat ∧ Q (.int z) H
theorem op_powW {X : Cx} : OpR X (binaryOp .Pow) rPowW := by
  intro pins s σ H x y v u Q I rx ry h
  obtain ⟨i, j, z, rfl, rfl, hc, rfl, q⟩ := h
  obtain ⟨t, rfl⟩ := rx
  obtain ⟨t', rfl⟩ := ry
  exact pow_int hc.1 hc.2 ⟨.int (i ^ j.toNat), H, I.tok _, ⟨_, rfl⟩, q⟩
def spLaw (K : PySem.W.Frag) : Sp := fun vs H Q _ => ∃ (a : Addr) (ns : List Int), vs = [.ref a] ∧ SqL K H a (ns.map V.int) ∧ ns.length ≤ 63 ∧ ∀ H', Q (.bl true) H'
theorem scLaw : FnScope ["_law_cells", "_law_largest", "_law_purses", "_law_k", "_law_purse_here"] ["_law_cells"] (defScope sLaw) := ⟨rfl, rfl, rfl, by decide +kernel, rfl, by decide +kernel, by decide +kernel⟩
def big : Int := ((10 : Int) ^ (60 : Int).toNat) ^ (5 : Int).toNat
def dLim (L : Int) : PyData := .list [.int 16, .int 1024, .int L, .int 64]
theorem big_bits : (Builtin.Int.intBits ((10 : Int) ^ (60 : Int).toNat) : Int) * 5 ≤ 2 ^ 27 := by decide +kernel
theorem ten_bits : (Builtin.Int.intBits (10 : Int) : Int) * 60 ≤ 2 ^ 27 := by decide +kernel
theorem big_ok : ∃ (m L : Int), m = (10 : Int) ^ (60 : Int).toNat ∧ L = m ^ (5 : Int).toNat ∧ (Builtin.Int.intBits m : Int) * 5 ≤ 2 ^ 27 ∧ L = big := ⟨_, _, rfl, rfl, big_bits, rfl⟩
theorem big_show : (dLim big).showable = true := by decide +kernel
theorem big_len : (dLim big).shown.length ≤ sizeLine := by decide +kernel
structure Lim (mg : Str → Option Value) : Prop where
  rank : ∃ t, mg "RANK" = some (.int 16 t)
  states : ∃ t, mg "STATES" = some (.int 1024 t)
  largest : ∃ t, mg "LARGEST" = some (.int big t)
  together : ∃ t, mg "TOGETHER" = some (.int 64 t)
  repr : mg "repr" = none
  range : mg "range" = none
  max : mg "max" = none
  min : mg "min" = none
  len : mg "len" = none
  all : mg "all" = none
theorem dp_lim {K : PySem.W.Frag} {H : Hp} {a : Addr} {L : Int} (h : H a = some (.lst [.int 16, .int 1024, .int L, .int 64])) : Dp K H (.ref a) (dLim L) :=
  .lst (SqL.of h) (.cons (.int 16) (.cons (.int 1024) (.cons (.int L) (.cons (.int 64) .nil))))
def PurseAt (H : Hp) (p : Addr) : Prop := ∃ m f : Int, H p = some (.lst [.int m, .int f, .int 0]) ∧ 0 ≤ m ∧ m < PM ∧ 0 ≤ f
theorem PurseAt.same {H H' : Hp} {p : Addr} (x : PurseAt H p) (s : Same H H') : PurseAt H' p := let ⟨m, f, h, r⟩ := x; ⟨m, f, s _ _ h, r⟩
section
variable {P : Program} {w : World} {K : PySem.W.Frag} {mg : Str → Option Value} {base : Heap} {C : Nat → Addr}
theorem ok_law {f fC fP fR : Addr} {fd dC dP dR : FuncData} (F : Fun K "law" "law" sLaw f fd) (B : Lim mg)
    (Ce : Cs P w K mg base "_law_cell" 1 ["_law_cells", "_law_k"] (spCell K) fC dC) (Pu : Cs P w K mg base "_law_purse" 1 ["_law_cell_here"] spPurse fP dP)
    (Ri : FnG P w K mg base CX0 4 fR dR ["_law_purse_here"] spRight) (bR : Binds K dR ["_law_purse_here"] []) (mR : mg "_law_right" = some (.ref fR)) (kR : PySem.W.keepIn K (.ref fR) = true) : FnG P w K mg base CX0 5 f fd ["_law_cells"] (spLaw K) := by
  refine Fun.okG F scLaw (fun vs H Q E h => ?_) (fun cdv A outer s H vs Q E hr hG h => ?_)
  · obtain ⟨a, ns, rfl, _⟩ := h
    rfl
  · obtain ⟨a, ns, rfl, ha, hl, k⟩ := h
    have nd := scLaw.nd
    obtain ⟨t1, e1⟩ := B.rank
    obtain ⟨t2, e2⟩ := B.states
    obtain ⟨t3, e3⟩ := B.largest
    obtain ⟨t4, e4⟩ := B.together
    obtain ⟨m60, L, hm60, hL, hbits, hLb⟩ := big_ok
    have dsh := big_show
    have dln := big_len
    have dpt : (dLim big).depth ≤ 8 := by decide +kernel
    have hnd : (dLim big).hasDict = false := by decide +kernel
    rw [← hLb] at e3 dsh dln dpt hnd
    clear hLb
    have r1 : Room 1 (A.deeper (envOfC "law" (defScope sLaw) s.heap.objs.size _ cdv)) := hr.mono (by decide)
    refine ⟨_, pss_cons (ps_set (i := 1) nd rfl (Or.inl rfl) (pe_op op_powW (pe_op op_powW pe_int pe_int) pe_int))
      (pss_cons (ps_if (pt_cmpR op_ne (pe_callB (call_rep hG hr.units) (by rfl) B.repr (by decide +kernel) (pa_cons (pe_lst (pa_cons (pe_glob (v := .int 16) (by rfl) e1 ⟨_, rfl⟩) (pa_cons (pe_glob (v := .int 1024) (by rfl) e2 ⟨_, rfl⟩) (pa_cons (pe_glob (v := .int L) (by rfl) e3 ⟨_, rfl⟩) (pa_cons (pe_glob (v := .int 64) (by rfl) e4 ⟨_, rfl⟩) pa_nil))))) pa_nil))
          (pe_callB (call_rep hG hr.units) (by rfl) B.repr (by decide +kernel) (pa_cons (pe_lst (pa_cons pe_int (pa_cons pe_int (pa_cons (pv 1) (pa_cons pe_int pa_nil))))) pa_nil)) (nomark _)) (pss_one (ps_ret pe_bl)) pss_nil)
      (pss_cons (ps_setLc (i := 2) (own := [("_law_k", 3)]) (g := gName 3) (tt := tYes) rfl nd rfl rfl (sw_true rfl rfl rfl (by decide +kernel)) (pi_range1 rfl B.range (pa_cons (pe_callB (call_max2 rfl) rfl B.max (by decide +kernel) (pa_cons pe_int (pa_cons (pe_callB (call_min2 rfl) rfl B.min (by decide +kernel) (pa_cons (pe_callB call_len (by rfl) B.len boot_len (pa_cons (pv 0) pa_nil)) (pa_cons pe_int pa_nil))) pa_nil))) pa_nil))
          (blkOk_by (own := [("_law_k", 3)]) (N := ["_law_cells", "_law_largest", "_law_purses", "_law_k", "_law_purse_here"]) (sc := defScope sLaw) (by decide +kernel)) (fun _ _ _ _ _ => pg_name (i := 3) nd rfl (Or.inl rfl)) (fun _ _ _ _ _ => pts_nil)
          (fun _ _ _ _ _ => pe_call Pu.ok r1 (by rfl) Pu.m Pu.kp Pu.b .nil pass0 (pa_cons (pe_call Ce.ok r1 (by rfl) Ce.m Ce.kp Ce.b .nil pass0 (pa_cons (pv 0) (pa_cons (pv 3) pa_nil))) pa_nil)))
      (pss_one (ps_ret (pe_callB (cr_all rfl) (by rfl) B.all (by decide +kernel) (pa_cons (pe_lc (own := [("_law_purse_here", 4)]) (g := gName 4) (tt := tYes) rfl nd (pi_list (pv 2)) (blkOk_by (own := [("_law_purse_here", 4)]) (N := ["_law_cells", "_law_largest", "_law_purses", "_law_k", "_law_purse_here"]) (sc := defScope sLaw) (by decide +kernel)) (fun _ _ _ _ _ => pg_name (i := 4) nd rfl (Or.inl rfl)) (fun _ _ _ _ _ => pts_nil)
          (fun _ _ _ _ _ => pe_callG Ri hr hG (by rfl) mR kR bR .nil pass0 (pa_cons (pv 4) pa_nil))) pa_nil)))))), ?_⟩
    refine ⟨_, _, m60, rfl, rfl, ⟨by decide, ten_bits⟩, hm60, _, _, L, rfl, rfl, ⟨by decide, hbits⟩, hL, ?_⟩
    refine ⟨by show 4 ≤ sizeLine; decide, fun l1 n1 => ⟨_, dLim L, rfl, dp_lim upd_same, dsh, hnd, dpt, dln, _, rfl, by show 4 ≤ sizeLine; decide, fun l2 n2 => ⟨_, dLim L, rfl, dp_lim upd_same, dsh, hnd, dpt, dln, rfl, _, rfl, iteNS rfl ?_⟩⟩⟩
    obtain ⟨H2, hH2⟩ : ∃ H2, H2 = upd (upd H l1 (.lst [.int 16, .int 1024, .int L, .int 64])) l2 (.lst [.int 16, .int 1024, .int L, .int 64]) := ⟨_, rfl⟩
    have s2 : Same H H2 := by rw [hH2]; exact sameUp (sameUp (Same.refl H) n1) n2
    show tSeq _ _ _ _ (upd (upd H l1 (.lst [.int 16, .int 1024, .int L, .int 64])) l2 (.lst [.int 16, .int 1024, .int L, .int 64]))
    rw [← hH2]
    clear hH2
    have ha2 := s2.seq ha
    have few : ∀ z : Int, 0 ≤ z → z ≤ 63 → ∃ n : Nat, n ≤ 4 ∧ (if (if (4 : Int) < z then (4 : Int) else z) > 2 then (if (4 : Int) < z then (4 : Int) else z) else 2) = (n : Int) := fun z hz hz2 => by
      by_cases h4 : (4 : Int) < z
      · rw [if_pos h4]; exact ⟨4, by omega, by rw [if_pos (by omega)]; rfl⟩
      · rw [if_neg h4]
        by_cases h2 : z > 2
        · rw [if_pos h2]; exact ⟨z.toNat, by omega, by omega⟩
        · rw [if_neg h2]; exact ⟨2, by omega, rfl⟩
    obtain ⟨n, hn4, hn⟩ := few (((ns.map V.int).length : Nat) : Int) (by omega) (by rw [List.length_map]; omega)
    refine ⟨_, rfl, _, _, rfl, .inl ⟨_, ha2, rfl⟩, _, _, rfl, _, _, rfl, ?_⟩
    show ∃ j : Int, [V.int (if (if (4 : Int) < (((ns.map V.int).length : Nat) : Int) then (4 : Int) else (((ns.map V.int).length : Nat) : Int)) > 2 then (if (4 : Int) < (((ns.map V.int).length : Nat) : Int) then (4 : Int) else (((ns.map V.int).length : Nat) : Int)) else 2)] = [.int j] ∧ _
    rw [hn]
    refine ⟨(n : Int), rfl, by omega, by omega, fun D hD => ?_⟩
    rw [Int.toNat_natCast]
    refine lc_range (lo := 0) (n := n) (fun i H' => Same H2 H' ∧ ∃ ps : List Addr, H' D = some (.lst (ps.map V.ref)) ∧ ps.length = i ∧ ps.Nodup ∧ D ∉ ps ∧ ∀ p ∈ ps, PurseAt H' p) ?_ ?_ ?_
    · exact ⟨sameUp (Same.refl _) hD, [], upd_same, rfl, List.nodup_nil, List.not_mem_nil, fun p hp => absurd hp List.not_mem_nil⟩
    · rintro i H' hi ⟨sH, ps, hDl, hlen, hnd', hDn, hpu⟩
      refine ⟨rfl, _, rfl, _, rfl, a, ns, i, by show [V.ref a, V.int (0 + (i : Int))] = _; rw [Int.zero_add], sH.seq ha2, hl, by omega, fun z H3 s3 => ⟨z, rfl, fun p m f np hm hm2 hf => ?_⟩⟩
      have hD3 := s3 _ _ hDl
      have neD : D ≠ p := ne_of_none hD3 np
      have s4 : Same H3 (upd H3 p (.lst [.int m, .int f, .int 0])) := sameUp (Same.refl _) np
      refine ⟨ps.map V.ref, by rw [upd_ne neD]; exact hD3, by rw [List.length_map]; exact small1000 (by omega), ?_⟩
      have pnew : ∀ q ∈ ps, q ≠ p := fun q hq => by
        obtain ⟨m', f', h', _⟩ := hpu q hq
        exact ne_of_none (s3 _ _ h') np
      have other : ∀ b o, b ≠ D → (upd H3 p (.lst [.int m, .int f, .int 0])) b = some o → (upd (upd H3 p (.lst [.int m, .int f, .int 0])) D (.lst (ps.map V.ref ++ [.ref p]))) b = some o := fun b o n e => by rw [upd_ne n]; exact e
      refine ⟨fun b o e => ?_, ps ++ [p], ?_, ?_, ?_, ?_, ?_⟩
      · exact other b o (ne_of_none e hD) (s4 _ _ (s3 _ _ (sH _ _ e)))
      · rw [upd_same, List.map_append]; rfl
      · rw [List.length_append, hlen]; rfl
      · exact List.nodup_append.mpr ⟨hnd', by simp, fun q hq r hr => by
          rw [List.mem_singleton.mp hr]; exact pnew q hq⟩
      · intro hm'
        rcases List.mem_append.mp hm' with z | z
        · exact hDn z
        · exact neD (List.mem_singleton.mp z)
      · intro q hq
        rcases List.mem_append.mp hq with z | z
        · obtain ⟨m', f', h', r⟩ := hpu q z
          exact ⟨m', f', other q _ (fun e => hDn (e ▸ z)) (s4 _ _ (s3 _ _ h')), r⟩
        · rw [List.mem_singleton.mp z]
          exact ⟨m, f, other p _ (Ne.symm neD) upd_same, hm, hm2, hf⟩
    · rintro H' ⟨sH, ps, hDl, hlen, hnd', hDn, hpu⟩
      refine ⟨_, rfl, D, rfl, ⟨_, SqL.of hDl⟩, fun D2 hD2 => ?_⟩
      refine lc_list (K := K) (a := D) (xs := ps.map V.ref) (fun i H' => H' D = some (.lst (ps.map V.ref)) ∧ H' D2 = some (.lst ((List.replicate i true).map V.bl)) ∧ ∀ (j : Nat) (p : Addr), i ≤ j → ps[j]? = some p → p ≠ D2 ∧ PurseAt H' p) ?_ ?_ ?_ ?_
      · refine ⟨by rw [upd_ne (ne_of_none hDl hD2)]; exact hDl, upd_same, fun j p _ hp => ?_⟩
        have hmem := List.mem_of_getElem? hp
        obtain ⟨m', f', h', r⟩ := hpu p hmem
        exact ⟨ne_of_none h' hD2, m', f', by rw [upd_ne (ne_of_none h' hD2)]; exact h', r⟩
      · rintro i H4 _ ⟨h4, _⟩
        exact SqL.of h4
      · rintro i x H4 hx ⟨h4, h5, h6⟩
        rw [List.getElem?_map] at hx
        cases e : ps[i]? with
        | none => rw [e] at hx; cases hx
        | some p =>
          rw [e] at hx
          cases hx
          obtain ⟨nep, m, f, hp, hm, hm2, hf⟩ := h6 i p (Nat.le_refl _) e
          have hpD : p ≠ D := fun z => hDn (z ▸ List.mem_of_getElem? e)
          have hilt : i < ps.length := (List.getElem?_eq_some_iff.mp e).1
          refine ⟨rfl, _, rfl, p, m, f, 0, rfl, hp, hm, hm2, hf, by decide, by decide, fun H5 kb => ?_⟩
          refine ⟨_, kb _ _ (Ne.symm nep) h5, by rw [List.length_map, List.length_replicate]; exact small1000 (by omega), ?_⟩
          have hDD2 : D ≠ D2 := fun z => by
            rw [← z, h4] at h5
            have z2 := Option.some.inj h5
            cases hps : ps with
            | nil => rw [hps] at hilt; exact absurd hilt (Nat.not_lt_zero _)
            | cons p0 ps' =>
              rw [hps] at z2
              have z3 := HO.lst.inj z2
              cases i with
              | zero => cases z3
              | succ i' => cases z3
          refine ⟨by rw [upd_ne hDD2]; exact kb _ _ (Ne.symm hpD) h4, by rw [upd_same, List.replicate_succ', List.map_append]; rfl, fun j q hj hq => ?_⟩
          obtain ⟨neq, m', f', h', r⟩ := h6 j q (by omega) hq
          have nqp : q ≠ p := fun z => by
              rw [z] at hq
              have := nd_ix hnd' hq e
              omega
          exact ⟨neq, m', f', by rw [upd_ne neq]; exact kb _ _ nqp h', r⟩
      · rintro H4 ⟨h4, h5, h6⟩
        refine ⟨D2, _, rfl, SqL.of h5, ?_⟩
        rw [show (List.replicate (ps.map V.ref).length true).all id = true by simp]
        exact k _
end
end L2.EK

namespace L2.EK
open PySem PySem.Spec PyProof.Rows
def exB (K : PySem.W.Frag) (c : Addr) : Bool := (PySem.W.clsIn K c).isSome && decide (PySem.W.findIn K (.ref c) "__getattribute__" = some (some (.builtin "BaseException.__getattribute__"))) && decide (PySem.W.findIn K (.ref c) "__getattr__" = some none) &&
  decide (PySem.W.subIn K (.ref c) (.type "BaseException") = some true) && decide (PySem.W.findIn K (.ref c) "__class__" = some (some (.builtin "object.__class__"))) && decide (PySem.W.specialIn K (.builtin "object.__class__") "__get__" = some (some (.builtin "getset_descriptor.__get__"))) &&
  decide (PySem.W.takesIn K (.builtin "object.__class__") = some true) && decide (PySem.W.mroIn K c (.type "object") = some true) && PySem.W.hasDictIn K c
def ecB (K : PySem.W.Frag) (c : Addr) (k : Nat) : Bool := PySem.W.excInitIn K c (bm k) (newId k) && decide (PySem.W.findIn K (.ref c) "__setattr__" = some (some (.builtin "object.__setattr__"))) && PySem.W.excOver K c (bm k) && PySem.W.hasDictIn K c && PySem.W.keepIn K (.ref c)
def dkB (K : PySem.W.Frag) (d : Addr) (k : Nat) : Bool := decide (PySem.W.specialIn K (.ref d) "__getattribute__" = some (some (.builtin "type.__getattribute__"))) && decide (PySem.W.typeIn K (.ref d) = some (.type "type")) && PySem.W.readsIn K d (.type "type")
def clsB (K : PySem.W.Frag) (cs ds : List Addr) (i : Nat) : Bool := exB K (cs.getD i 0) && ((List.range 17).all fun j => decide (PySem.W.kitOne K (.ref (cs.getD i 0)) (.ref (cs.getD j 0)) = some (decide (j = i)))) &&
  ((List.range 3).all fun k => decide (PySem.W.kitOne K (.ref (cs.getD i 0)) (.ref (ds.getD k 0)) = some (decide (k = grp i))) && decide (PySem.W.kitOne K (.ref (cs.getD i 0)) (.type (bname k)) = some (decide (k = grp i)))) &&
  (if hasF i = true then ecB K (cs.getD i 0) (grp i) && decide (PySem.W.takerIn K (cs.getD i 0) (fname i) = some none) && decide (PySem.W.findIn K (.ref (cs.getD i 0)) (fname i) = some none) else PySem.W.excIn K (cs.getD i 0) (bm (grp i)) (newId (grp i)) && PySem.W.keepIn K (.ref (cs.getD i 0)))
def aggB (K : PySem.W.Frag) (cs ds : List Addr) : Bool := (List.range 17).all (clsB K cs ds) && (List.range 2).all (fun k => dkB K (ds.getD k 0) k)
section
variable {K : PySem.W.Frag} {cs ds : List Addr}
theorem exB_ok {c : Addr} (h : exB K c = true) : EX K c := by
  simp only [exB, Bool.and_eq_true, decide_eq_true_eq] at h
  obtain ⟨⟨⟨⟨⟨⟨⟨⟨h1, h2⟩, h3⟩, h4⟩, h5⟩, h6⟩, h7⟩, h8⟩, h9⟩ := h
  exact ⟨h1, h2, h3, h4, h5, h6, h7, h8, h9⟩
theorem ecB_ok {c : Addr} {k : Nat} (h : ecB K c k = true) : EC K c (bm k) (newId k) := by
  simp only [ecB, Bool.and_eq_true, decide_eq_true_eq] at h
  obtain ⟨⟨⟨⟨h1, h2⟩, h3⟩, h4⟩, h5⟩ := h
  exact ⟨h1, h2, h3, h4, h5⟩
theorem agg_cls (h : aggB K cs ds = true) {i : Nat} (hi : i < 17) : clsB K cs ds i = true := List.all_eq_true.mp (Bool.and_eq_true_iff.mp h).1 i (List.mem_range.mpr hi)
theorem agg_dk (h : aggB K cs ds = true) {k : Nat} (hk : k < 2) : dkB K (ds.getD k 0) k = true := List.all_eq_true.mp (Bool.and_eq_true_iff.mp h).2 k (List.mem_range.mpr hk)
theorem cls_parts {i : Nat} (h : clsB K cs ds i = true) : EX K (cs.getD i 0) ∧ (∀ j, j < 17 → PySem.W.kitOne K (.ref (cs.getD i 0)) (.ref (cs.getD j 0)) = some (decide (j = i))) ∧
    (∀ k, k < 3 → PySem.W.kitOne K (.ref (cs.getD i 0)) (.ref (ds.getD k 0)) = some (decide (k = grp i))) ∧ (∀ k, k < 3 → PySem.W.kitOne K (.ref (cs.getD i 0)) (.type (bname k)) = some (decide (k = grp i))) ∧
    (hasF i = true → EC K (cs.getD i 0) (bm (grp i)) (newId (grp i)) ∧ PySem.W.takerIn K (cs.getD i 0) (fname i) = some none ∧ PySem.W.findIn K (.ref (cs.getD i 0)) (fname i) = some none) ∧
    (hasF i = false → PySem.W.excIn K (cs.getD i 0) (bm (grp i)) (newId (grp i)) = true ∧ PySem.W.keepIn K (.ref (cs.getD i 0)) = true) := by
  unfold clsB at h
  rw [Bool.and_eq_true, Bool.and_eq_true, Bool.and_eq_true] at h
  obtain ⟨⟨⟨h1, h2⟩, h3⟩, h4⟩ := h
  refine ⟨exB_ok h1, fun j hj => of_decide_eq_true (List.all_eq_true.mp h2 j (List.mem_range.mpr hj)), fun k hk => of_decide_eq_true (Bool.and_eq_true_iff.mp (List.all_eq_true.mp h3 k (List.mem_range.mpr hk))).1,
    fun k hk => of_decide_eq_true (Bool.and_eq_true_iff.mp (List.all_eq_true.mp h3 k (List.mem_range.mpr hk))).2, fun hf => ?_, fun hf => ?_⟩
  · rw [if_pos hf, Bool.and_eq_true, Bool.and_eq_true] at h4
    exact ⟨ecB_ok h4.1.1, of_decide_eq_true h4.1.2, of_decide_eq_true h4.2⟩
  · rw [if_neg (by rw [hf]; exact Bool.false_ne_true), Bool.and_eq_true] at h4
    exact h4
theorem bind_kw {x qual f : Str} {st : Stmt} {a : Addr} {fd : FuncData} (F : Fun K x qual st a fd) (h : ∀ (kV doc pm : Value) (an : Option Addr) (cdv ct u1 u2 : Value), bindArgs (PySem.W.fnOf x qual (defArgs st) (defBody st) (defScope st) .none kV doc pm an cdv ct) ⟨[u1], [(f, u2)]⟩ = (pure [(("self" : Str), u1), (f, u2)] : Sem (List (Str × Value)))) :
    ∀ (s : Shared) (u1 u2 : Value), BindsTo s fd ⟨[u1], [(f, u2)]⟩ [("self", u1), (f, u2)] := by
  obtain ⟨oc, od, kV, doc, pm, an, cdv, ct, osl, rfl, lk, hcd⟩ := F.ex
  exact fun s u1 u2 => .of_eq (h kV doc pm an cdv ct u1 u2)
end
theorem all_mk {P : Program} {w : World} {K : PySem.W.Frag} {h : Heap} {mg : Str → Option Value} {fa : Addr} (X : K.In h) (G : h.Ns mainGlobals mg) (hfa : mg "law" = some (.ref fa)) (hbig : ∃ t, mg "LARGEST" = some (.int big t))
    {c0 c1 c2 c3 c4 c5 c6 c7 c8 c9 c10 c11 c12 c13 c14 c15 c16 d0 d1 d2 i0 i1 i2 i3 i4 i5 i6 i7 i8 i9 i10 i11 i14 g0 g1 g2 g3 g4 g5 g6 g7 g8 fa' : Addr} {ocI0 kVI0 dcI0 pmI0 cdI0 ctI0 ocI1 kVI1 dcI1 pmI1 cdI1 ctI1 ocI2 kVI2 dcI2 pmI2 cdI2 ctI2 ocI3 kVI3 dcI3 pmI3 cdI3 ctI3 ocI4 kVI4 dcI4 pmI4 cdI4 ctI4 ocI5 kVI5 dcI5 pmI5 cdI5 ctI5 ocI6 kVI6 dcI6 pmI6 cdI6 ctI6 ocI7 kVI7 dcI7 pmI7 cdI7 ctI7 ocI8 kVI8 dcI8 pmI8 cdI8 ctI8 ocI9 kVI9 dcI9 pmI9 cdI9 ctI9 ocI10 kVI10 dcI10 pmI10 cdI10 ctI10 ocI11 kVI11 dcI11 pmI11 cdI11 ctI11 ocI14 kVI14 dcI14 pmI14 cdI14 ctI14 ocG0 kVG0 dcG0 pmG0 cdG0 ctG0 ocG1 kVG1 dcG1 pmG1 cdG1 ctG1 ocG2 kVG2 dcG2 pmG2 cdG2 ctG2 ocG3 kVG3 dcG3 pmG3 cdG3 ctG3 ocG4 kVG4 dcG4 pmG4 cdG4 ctG4 ocG5 kVG5 dcG5 pmG5 cdG5 ctG5 ocG6 kVG6 dcG6 pmG6 cdG6 ctG6 ocG7 kVG7 dcG7 pmG7 cdG7 ctG7 ocG8 kVG8 dcG8 pmG8 cdG8 ctG8 ocG9 kVG9 dcG9 pmG9 cdG9 ctG9 : Value} {odI0 anI0 odI1 anI1 odI2 anI2 odI3 anI3 odI4 anI4 odI5 anI5 odI6 anI6 odI7 anI7 odI8 anI8 odI9 anI9 odI10 anI10 odI11 anI11 odI14 anI14 odG0 anG0 odG1 anG1 odG2 anG2 odG3 anG3 odG4 anG4 odG5 anG5 odG6 anG6 odG7 anG7 odG8 anG8 odG9 anG9 : Option Addr} {slI0 slI1 slI2 slI3 slI4 slI5 slI6 slI7 slI8 slI9 slI10 slI11 slI14 slG0 slG1 slG2 slG3 slG4 slG5 slG6 slG7 slG8 slG9 : Array (Option Value)} {tRANK tSTATES tTOGETHER : Tok}
    (aC0 : PySem.W.nsIn K mainGlobals "InvalidNumber" = some (some (.ref c0)))
    (aC1 : PySem.W.nsIn K mainGlobals "InvalidName" = some (some (.ref c1)))
    (aC2 : PySem.W.nsIn K mainGlobals "InvalidRule" = some (some (.ref c2)))
    (aC3 : PySem.W.nsIn K mainGlobals "NotFitting" = some (some (.ref c3)))
    (aC4 : PySem.W.nsIn K mainGlobals "InvalidValues" = some (some (.ref c4)))
    (aC5 : PySem.W.nsIn K mainGlobals "InvalidDeeds" = some (some (.ref c5)))
    (aC6 : PySem.W.nsIn K mainGlobals "InvalidText" = some (some (.ref c6)))
    (aC7 : PySem.W.nsIn K mainGlobals "InvalidCommand" = some (some (.ref c7)))
    (aC8 : PySem.W.nsIn K mainGlobals "NotAFunction" = some (some (.ref c8)))
    (aC9 : PySem.W.nsIn K mainGlobals "UnknownName" = some (some (.ref c9)))
    (aC10 : PySem.W.nsIn K mainGlobals "Refused" = some (some (.ref c10)))
    (aC11 : PySem.W.nsIn K mainGlobals "Parted" = some (some (.ref c11)))
    (aC12 : PySem.W.nsIn K mainGlobals "Busy" = some (some (.ref c12)))
    (aC13 : PySem.W.nsIn K mainGlobals "NothingToUndo" = some (some (.ref c13)))
    (aC14 : PySem.W.nsIn K mainGlobals "NoMember" = some (some (.ref c14)))
    (aC15 : PySem.W.nsIn K mainGlobals "TooMany" = some (some (.ref c15)))
    (aC16 : PySem.W.nsIn K mainGlobals "TooManyStates" = some (some (.ref c16)))
    (aD0 : PySem.W.nsIn K mainGlobals "InputError" = some (some (.ref d0)))
    (aD1 : PySem.W.nsIn K mainGlobals "StateError" = some (some (.ref d1)))
    (aD2 : PySem.W.nsIn K mainGlobals "LimitError" = some (some (.ref d2)))
    (ag : aggB K [c0, c1, c2, c3, c4, c5, c6, c7, c8, c9, c10, c11, c12, c13, c14, c15, c16] [d0, d1, d2] = true)
    (vV0 : PySem.W.findCls K (.ref d0) (.type "type") "__init__" = some (.val (.builtin "ValueError.__init__")))
    (vV1 : PySem.W.findCls K (.ref d1) (.type "type") "__init__" = some (.val (.builtin "LookupError.__init__")))
    (nI0 : PySem.W.findIn K (.ref c0) "__init__" = some (some (.ref i0)))
    (lI0 : K.lookup i0 = some ⟨ocI0, odI0, .func (PySem.W.fnOf "__init__" "InvalidNumber.__init__" (defArgs (inClass (topS 2) 0)) (defBody (inClass (topS 2) 0)) (defScope (inClass (topS 2) 0)) .none kVI0 dcI0 pmI0 anI0 cdI0 ctI0), slI0⟩)
    (cI0 : PySem.W.codeIn K cdI0 "InvalidNumber.__init__" = true)
    (kI0 : PySem.W.keepIn K (.ref i0) = true)
    (tI0 : PySem.W.typeIn K (.ref i0) = some (.type "function"))
    (nI1 : PySem.W.findIn K (.ref c1) "__init__" = some (some (.ref i1)))
    (lI1 : K.lookup i1 = some ⟨ocI1, odI1, .func (PySem.W.fnOf "__init__" "InvalidName.__init__" (defArgs (inClass (topS 3) 0)) (defBody (inClass (topS 3) 0)) (defScope (inClass (topS 3) 0)) .none kVI1 dcI1 pmI1 anI1 cdI1 ctI1), slI1⟩)
    (cI1 : PySem.W.codeIn K cdI1 "InvalidName.__init__" = true)
    (kI1 : PySem.W.keepIn K (.ref i1) = true)
    (tI1 : PySem.W.typeIn K (.ref i1) = some (.type "function"))
    (nI2 : PySem.W.findIn K (.ref c2) "__init__" = some (some (.ref i2)))
    (lI2 : K.lookup i2 = some ⟨ocI2, odI2, .func (PySem.W.fnOf "__init__" "InvalidRule.__init__" (defArgs (inClass (topS 4) 0)) (defBody (inClass (topS 4) 0)) (defScope (inClass (topS 4) 0)) .none kVI2 dcI2 pmI2 anI2 cdI2 ctI2), slI2⟩)
    (cI2 : PySem.W.codeIn K cdI2 "InvalidRule.__init__" = true)
    (kI2 : PySem.W.keepIn K (.ref i2) = true)
    (tI2 : PySem.W.typeIn K (.ref i2) = some (.type "function"))
    (nI3 : PySem.W.findIn K (.ref c3) "__init__" = some (some (.ref i3)))
    (lI3 : K.lookup i3 = some ⟨ocI3, odI3, .func (PySem.W.fnOf "__init__" "NotFitting.__init__" (defArgs (inClass (topS 5) 0)) (defBody (inClass (topS 5) 0)) (defScope (inClass (topS 5) 0)) .none kVI3 dcI3 pmI3 anI3 cdI3 ctI3), slI3⟩)
    (cI3 : PySem.W.codeIn K cdI3 "NotFitting.__init__" = true)
    (kI3 : PySem.W.keepIn K (.ref i3) = true)
    (tI3 : PySem.W.typeIn K (.ref i3) = some (.type "function"))
    (nI4 : PySem.W.findIn K (.ref c4) "__init__" = some (some (.ref i4)))
    (lI4 : K.lookup i4 = some ⟨ocI4, odI4, .func (PySem.W.fnOf "__init__" "InvalidValues.__init__" (defArgs (inClass (topS 6) 0)) (defBody (inClass (topS 6) 0)) (defScope (inClass (topS 6) 0)) .none kVI4 dcI4 pmI4 anI4 cdI4 ctI4), slI4⟩)
    (cI4 : PySem.W.codeIn K cdI4 "InvalidValues.__init__" = true)
    (kI4 : PySem.W.keepIn K (.ref i4) = true)
    (tI4 : PySem.W.typeIn K (.ref i4) = some (.type "function"))
    (nI5 : PySem.W.findIn K (.ref c5) "__init__" = some (some (.ref i5)))
    (lI5 : K.lookup i5 = some ⟨ocI5, odI5, .func (PySem.W.fnOf "__init__" "InvalidDeeds.__init__" (defArgs (inClass (topS 7) 0)) (defBody (inClass (topS 7) 0)) (defScope (inClass (topS 7) 0)) .none kVI5 dcI5 pmI5 anI5 cdI5 ctI5), slI5⟩)
    (cI5 : PySem.W.codeIn K cdI5 "InvalidDeeds.__init__" = true)
    (kI5 : PySem.W.keepIn K (.ref i5) = true)
    (tI5 : PySem.W.typeIn K (.ref i5) = some (.type "function"))
    (nI6 : PySem.W.findIn K (.ref c6) "__init__" = some (some (.ref i6)))
    (lI6 : K.lookup i6 = some ⟨ocI6, odI6, .func (PySem.W.fnOf "__init__" "InvalidText.__init__" (defArgs (inClass (topS 8) 0)) (defBody (inClass (topS 8) 0)) (defScope (inClass (topS 8) 0)) .none kVI6 dcI6 pmI6 anI6 cdI6 ctI6), slI6⟩)
    (cI6 : PySem.W.codeIn K cdI6 "InvalidText.__init__" = true)
    (kI6 : PySem.W.keepIn K (.ref i6) = true)
    (tI6 : PySem.W.typeIn K (.ref i6) = some (.type "function"))
    (nI7 : PySem.W.findIn K (.ref c7) "__init__" = some (some (.ref i7)))
    (lI7 : K.lookup i7 = some ⟨ocI7, odI7, .func (PySem.W.fnOf "__init__" "InvalidCommand.__init__" (defArgs (inClass (topS 9) 0)) (defBody (inClass (topS 9) 0)) (defScope (inClass (topS 9) 0)) .none kVI7 dcI7 pmI7 anI7 cdI7 ctI7), slI7⟩)
    (cI7 : PySem.W.codeIn K cdI7 "InvalidCommand.__init__" = true)
    (kI7 : PySem.W.keepIn K (.ref i7) = true)
    (tI7 : PySem.W.typeIn K (.ref i7) = some (.type "function"))
    (nI8 : PySem.W.findIn K (.ref c8) "__init__" = some (some (.ref i8)))
    (lI8 : K.lookup i8 = some ⟨ocI8, odI8, .func (PySem.W.fnOf "__init__" "NotAFunction.__init__" (defArgs (inClass (topS 10) 0)) (defBody (inClass (topS 10) 0)) (defScope (inClass (topS 10) 0)) .none kVI8 dcI8 pmI8 anI8 cdI8 ctI8), slI8⟩)
    (cI8 : PySem.W.codeIn K cdI8 "NotAFunction.__init__" = true)
    (kI8 : PySem.W.keepIn K (.ref i8) = true)
    (tI8 : PySem.W.typeIn K (.ref i8) = some (.type "function"))
    (nI9 : PySem.W.findIn K (.ref c9) "__init__" = some (some (.ref i9)))
    (lI9 : K.lookup i9 = some ⟨ocI9, odI9, .func (PySem.W.fnOf "__init__" "UnknownName.__init__" (defArgs (inClass (topS 12) 0)) (defBody (inClass (topS 12) 0)) (defScope (inClass (topS 12) 0)) .none kVI9 dcI9 pmI9 anI9 cdI9 ctI9), slI9⟩)
    (cI9 : PySem.W.codeIn K cdI9 "UnknownName.__init__" = true)
    (kI9 : PySem.W.keepIn K (.ref i9) = true)
    (tI9 : PySem.W.typeIn K (.ref i9) = some (.type "function"))
    (nI10 : PySem.W.findIn K (.ref c10) "__init__" = some (some (.ref i10)))
    (lI10 : K.lookup i10 = some ⟨ocI10, odI10, .func (PySem.W.fnOf "__init__" "Refused.__init__" (defArgs (inClass (topS 13) 0)) (defBody (inClass (topS 13) 0)) (defScope (inClass (topS 13) 0)) .none kVI10 dcI10 pmI10 anI10 cdI10 ctI10), slI10⟩)
    (cI10 : PySem.W.codeIn K cdI10 "Refused.__init__" = true)
    (kI10 : PySem.W.keepIn K (.ref i10) = true)
    (tI10 : PySem.W.typeIn K (.ref i10) = some (.type "function"))
    (nI11 : PySem.W.findIn K (.ref c11) "__init__" = some (some (.ref i11)))
    (lI11 : K.lookup i11 = some ⟨ocI11, odI11, .func (PySem.W.fnOf "__init__" "Parted.__init__" (defArgs (inClass (topS 14) 0)) (defBody (inClass (topS 14) 0)) (defScope (inClass (topS 14) 0)) .none kVI11 dcI11 pmI11 anI11 cdI11 ctI11), slI11⟩)
    (cI11 : PySem.W.codeIn K cdI11 "Parted.__init__" = true)
    (kI11 : PySem.W.keepIn K (.ref i11) = true)
    (tI11 : PySem.W.typeIn K (.ref i11) = some (.type "function"))
    (nI14 : PySem.W.findIn K (.ref c14) "__init__" = some (some (.ref i14)))
    (lI14 : K.lookup i14 = some ⟨ocI14, odI14, .func (PySem.W.fnOf "__init__" "NoMember.__init__" (defArgs (inClass (topS 17) 0)) (defBody (inClass (topS 17) 0)) (defScope (inClass (topS 17) 0)) .none kVI14 dcI14 pmI14 anI14 cdI14 ctI14), slI14⟩)
    (cI14 : PySem.W.codeIn K cdI14 "NoMember.__init__" = true)
    (kI14 : PySem.W.keepIn K (.ref i14) = true)
    (tI14 : PySem.W.typeIn K (.ref i14) = some (.type "function"))
    (nG0 : PySem.W.nsIn K mainGlobals "_law_cell" = some (some (.ref g0)))
    (lG0 : K.lookup g0 = some ⟨ocG0, odG0, .func (PySem.W.fnOf "_law_cell" "_law_cell" (defArgs (topS 26)) (defBody (topS 26)) (defScope (topS 26)) .none kVG0 dcG0 pmG0 anG0 cdG0 ctG0), slG0⟩)
    (cG0 : PySem.W.codeIn K cdG0 "_law_cell" = true)
    (kG0 : PySem.W.keepIn K (.ref g0) = true)
    (nG1 : PySem.W.nsIn K mainGlobals "_law_purse" = some (some (.ref g1)))
    (lG1 : K.lookup g1 = some ⟨ocG1, odG1, .func (PySem.W.fnOf "_law_purse" "_law_purse" (defArgs (topS 27)) (defBody (topS 27)) (defScope (topS 27)) .none kVG1 dcG1 pmG1 anG1 cdG1 ctG1), slG1⟩)
    (cG1 : PySem.W.codeIn K cdG1 "_law_purse" = true)
    (kG1 : PySem.W.keepIn K (.ref g1) = true)
    (nG2 : PySem.W.nsIn K mainGlobals "_law_draw" = some (some (.ref g2)))
    (lG2 : K.lookup g2 = some ⟨ocG2, odG2, .func (PySem.W.fnOf "_law_draw" "_law_draw" (defArgs (topS 28)) (defBody (topS 28)) (defScope (topS 28)) .none kVG2 dcG2 pmG2 anG2 cdG2 ctG2), slG2⟩)
    (cG2 : PySem.W.codeIn K cdG2 "_law_draw" = true)
    (kG2 : PySem.W.keepIn K (.ref g2) = true)
    (nG3 : PySem.W.nsIn K mainGlobals "_law_error" = some (some (.ref g3)))
    (lG3 : K.lookup g3 = some ⟨ocG3, odG3, .func (PySem.W.fnOf "_law_error" "_law_error" (defArgs (topS 29)) (defBody (topS 29)) (defScope (topS 29)) .none kVG3 dcG3 pmG3 anG3 cdG3 ctG3), slG3⟩)
    (cG3 : PySem.W.codeIn K cdG3 "_law_error" = true)
    (kG3 : PySem.W.keepIn K (.ref g3) = true)
    (nG4 : PySem.W.nsIn K mainGlobals "_law_placed" = some (some (.ref g4)))
    (lG4 : K.lookup g4 = some ⟨ocG4, odG4, .func (PySem.W.fnOf "_law_placed" "_law_placed" (defArgs (topS 30)) (defBody (topS 30)) (defScope (topS 30)) .none kVG4 dcG4 pmG4 anG4 cdG4 ctG4), slG4⟩)
    (cG4 : PySem.W.codeIn K cdG4 "_law_placed" = true)
    (kG4 : PySem.W.keepIn K (.ref g4) = true)
    (nG5 : PySem.W.nsIn K mainGlobals "_law_named" = some (some (.ref g5)))
    (lG5 : K.lookup g5 = some ⟨ocG5, odG5, .func (PySem.W.fnOf "_law_named" "_law_named" (defArgs (topS 31)) (defBody (topS 31)) (defScope (topS 31)) .none kVG5 dcG5 pmG5 anG5 cdG5 ctG5), slG5⟩)
    (cG5 : PySem.W.codeIn K cdG5 "_law_named" = true)
    (kG5 : PySem.W.keepIn K (.ref g5) = true)
    (nG6 : PySem.W.nsIn K mainGlobals "_law_field" = some (some (.ref g6)))
    (lG6 : K.lookup g6 = some ⟨ocG6, odG6, .func (PySem.W.fnOf "_law_field" "_law_field" (defArgs (topS 32)) (defBody (topS 32)) (defScope (topS 32)) .none kVG6 dcG6 pmG6 anG6 cdG6 ctG6), slG6⟩)
    (cG6 : PySem.W.codeIn K cdG6 "_law_field" = true)
    (kG6 : PySem.W.keepIn K (.ref g6) = true)
    (nG7 : PySem.W.nsIn K mainGlobals "_law_thing" = some (some (.ref g7)))
    (lG7 : K.lookup g7 = some ⟨ocG7, odG7, .func (PySem.W.fnOf "_law_thing" "_law_thing" (defArgs (topS 33)) (defBody (topS 33)) (defScope (topS 33)) .none kVG7 dcG7 pmG7 anG7 cdG7 ctG7), slG7⟩)
    (cG7 : PySem.W.codeIn K cdG7 "_law_thing" = true)
    (kG7 : PySem.W.keepIn K (.ref g7) = true)
    (nG8 : PySem.W.nsIn K mainGlobals "_law_right" = some (some (.ref g8)))
    (lG8 : K.lookup g8 = some ⟨ocG8, odG8, .func (PySem.W.fnOf "_law_right" "_law_right" (defArgs (topS 34)) (defBody (topS 34)) (defScope (topS 34)) .none kVG8 dcG8 pmG8 anG8 cdG8 ctG8), slG8⟩)
    (cG8 : PySem.W.codeIn K cdG8 "_law_right" = true)
    (kG8 : PySem.W.keepIn K (.ref g8) = true)
    (nG9 : PySem.W.nsIn K mainGlobals "law" = some (some (.ref fa')))
    (lG9 : K.lookup fa' = some ⟨ocG9, odG9, .func (PySem.W.fnOf "law" "law" (defArgs (topS 35)) (defBody (topS 35)) (defScope (topS 35)) .none kVG9 dcG9 pmG9 anG9 cdG9 ctG9), slG9⟩)
    (cG9 : PySem.W.codeIn K cdG9 "law" = true)
    (kG9 : PySem.W.keepIn K (.ref fa') = true)
    (mRANK : PySem.W.nsIn K mainGlobals "RANK" = some (some (.int 16 tRANK)))
    (mSTATES : PySem.W.nsIn K mainGlobals "STATES" = some (some (.int 1024 tSTATES)))
    (mTOGETHER : PySem.W.nsIn K mainGlobals "TOGETHER" = some (some (.int 64 tTOGETHER)))
    (zisinstance : PySem.W.nsIn K mainGlobals "isinstance" = some none)
    (zValueError : PySem.W.nsIn K mainGlobals "ValueError" = some none)
    (zLookupError : PySem.W.nsIn K mainGlobals "LookupError" = some none)
    (zArithmeticError : PySem.W.nsIn K mainGlobals "ArithmeticError" = some none)
    (zlen : PySem.W.nsIn K mainGlobals "len" = some none)
    (zint : PySem.W.nsIn K mainGlobals "int" = some none)
    (zabs : PySem.W.nsIn K mainGlobals "abs" = some none)
    (zstr : PySem.W.nsIn K mainGlobals "str" = some none)
    (zrange : PySem.W.nsIn K mainGlobals "range" = some none)
    (zrepr : PySem.W.nsIn K mainGlobals "repr" = some none)
    (zmax : PySem.W.nsIn K mainGlobals "max" = some none)
    (zmin : PySem.W.nsIn K mainGlobals "min" = some none)
    (zall : PySem.W.nsIn K mainGlobals "all" = some none) :
    ∃ fd : FuncData, (∀ (s : Shared) (v : Value), BindsTo s fd ⟨[v], []⟩ [("_law_cells", v)]) ∧ ∀ base : Heap, K.In base → base.Ns mainGlobals mg → FnG P w K mg base CX0 5 fa fd ["_law_cells"] (spLaw K) := by
  have e := hfa.symm.trans (PySem.W.mg_of X G nG9)
  cases e
  have Z := fun {n : Str} (e : PySem.W.nsIn K mainGlobals n = some none) => PySem.W.mg_none_of X G e
  have hC : ∀ i, i < 17 → mg (cname i) = some (.ref ([c0, c1, c2, c3, c4, c5, c6, c7, c8, c9, c10, c11, c12, c13, c14, c15, c16].getD i 0)) := fun i hi => by
    have hc : i ∈ List.range 17 := List.mem_range.mpr hi
    simp only [List.range, List.range.loop, List.mem_cons, List.not_mem_nil, or_false] at hc
    rcases hc with rfl | rfl | rfl | rfl | rfl | rfl | rfl | rfl | rfl | rfl | rfl | rfl | rfl | rfl | rfl | rfl | rfl
    · exact PySem.W.mg_of X G aC0
    · exact PySem.W.mg_of X G aC1
    · exact PySem.W.mg_of X G aC2
    · exact PySem.W.mg_of X G aC3
    · exact PySem.W.mg_of X G aC4
    · exact PySem.W.mg_of X G aC5
    · exact PySem.W.mg_of X G aC6
    · exact PySem.W.mg_of X G aC7
    · exact PySem.W.mg_of X G aC8
    · exact PySem.W.mg_of X G aC9
    · exact PySem.W.mg_of X G aC10
    · exact PySem.W.mg_of X G aC11
    · exact PySem.W.mg_of X G aC12
    · exact PySem.W.mg_of X G aC13
    · exact PySem.W.mg_of X G aC14
    · exact PySem.W.mg_of X G aC15
    · exact PySem.W.mg_of X G aC16
  have hD : ∀ k, k < 3 → mg (dname k) = some (.ref ([d0, d1, d2].getD k 0)) := fun k hk => by
    have hc : k ∈ List.range 3 := List.mem_range.mpr hk
    simp only [List.range, List.range.loop, List.mem_cons, List.not_mem_nil, or_false] at hc
    rcases hc with rfl | rfl | rfl
    · exact PySem.W.mg_of X G aD0
    · exact PySem.W.mg_of X G aD1
    · exact PySem.W.mg_of X G aD2
  have T : Cl K mg (fun i => [c0, c1, c2, c3, c4, c5, c6, c7, c8, c9, c10, c11, c12, c13, c14, c15, c16].getD i 0) (fun k => [d0, d1, d2].getD k 0) :=
    ⟨hC, hD, fun i hi => (cls_parts (agg_cls ag hi)).1, fun i j hi hj => (cls_parts (agg_cls ag hi)).2.1 j hj, fun i k hi hk => (cls_parts (agg_cls ag hi)).2.2.1 k hk, fun i k hi hk => (cls_parts (agg_cls ag hi)).2.2.2.1 k hk,
      Z zisinstance, Z zValueError, Z zLookupError, Z zArithmeticError⟩
  have D0 : Dk K mg d0 0 := by
    have q := agg_dk ag (k := 0) (by decide)
    simp only [dkB, Bool.and_eq_true, decide_eq_true_eq] at q
    exact ⟨hD 0 (by decide), q.1.1, q.1.2, q.2, vV0⟩
  have D1 : Dk K mg d1 1 := by
    have q := agg_dk ag (k := 1) (by decide)
    simp only [dkB, Bool.and_eq_true, decide_eq_true_eq] at q
    exact ⟨hD 1 (by decide), q.1.1, q.1.2, q.2, vV1⟩
  have FI0 := fun_mk (st := inClass (topS 2) 0) lI0 cI0 kI0
  have bI0 := FI0.binds (ps := ["self", "number"]) fun _ _ _ _ _ _ us hl => match us, hl with | [_, _], _ => rfl
  have kb0 := bind_kw (f := "number") FI0 fun _ _ _ _ _ _ _ _ => rfl
  have FI1 := fun_mk (st := inClass (topS 3) 0) lI1 cI1 kI1
  have bI1 := FI1.binds (ps := ["self", "name"]) fun _ _ _ _ _ _ us hl => match us, hl with | [_, _], _ => rfl
  have kb1 := bind_kw (f := "name") FI1 fun _ _ _ _ _ _ _ _ => rfl
  have FI2 := fun_mk (st := inClass (topS 4) 0) lI2 cI2 kI2
  have bI2 := FI2.binds (ps := ["self", "index"]) fun _ _ _ _ _ _ us hl => match us, hl with | [_, _], _ => rfl
  have kb2 := bind_kw (f := "index") FI2 fun _ _ _ _ _ _ _ _ => rfl
  have FI3 := fun_mk (st := inClass (topS 5) 0) lI3 cI3 kI3
  have bI3 := FI3.binds (ps := ["self", "index"]) fun _ _ _ _ _ _ us hl => match us, hl with | [_, _], _ => rfl
  have kb3 := bind_kw (f := "index") FI3 fun _ _ _ _ _ _ _ _ => rfl
  have FI4 := fun_mk (st := inClass (topS 6) 0) lI4 cI4 kI4
  have bI4 := FI4.binds (ps := ["self", "index"]) fun _ _ _ _ _ _ us hl => match us, hl with | [_, _], _ => rfl
  have kb4 := bind_kw (f := "index") FI4 fun _ _ _ _ _ _ _ _ => rfl
  have FI5 := fun_mk (st := inClass (topS 7) 0) lI5 cI5 kI5
  have bI5 := FI5.binds (ps := ["self", "index"]) fun _ _ _ _ _ _ us hl => match us, hl with | [_, _], _ => rfl
  have kb5 := bind_kw (f := "index") FI5 fun _ _ _ _ _ _ _ _ => rfl
  have FI6 := fun_mk (st := inClass (topS 8) 0) lI6 cI6 kI6
  have bI6 := FI6.binds (ps := ["self", "text"]) fun _ _ _ _ _ _ us hl => match us, hl with | [_, _], _ => rfl
  have kb6 := bind_kw (f := "text") FI6 fun _ _ _ _ _ _ _ _ => rfl
  have FI7 := fun_mk (st := inClass (topS 9) 0) lI7 cI7 kI7
  have bI7 := FI7.binds (ps := ["self", "command"]) fun _ _ _ _ _ _ us hl => match us, hl with | [_, _], _ => rfl
  have kb7 := bind_kw (f := "command") FI7 fun _ _ _ _ _ _ _ _ => rfl
  have FI8 := fun_mk (st := inClass (topS 10) 0) lI8 cI8 kI8
  have bI8 := FI8.binds (ps := ["self", "value"]) fun _ _ _ _ _ _ us hl => match us, hl with | [_, _], _ => rfl
  have kb8 := bind_kw (f := "value") FI8 fun _ _ _ _ _ _ _ _ => rfl
  have FI9 := fun_mk (st := inClass (topS 12) 0) lI9 cI9 kI9
  have bI9 := FI9.binds (ps := ["self", "name"]) fun _ _ _ _ _ _ us hl => match us, hl with | [_, _], _ => rfl
  have kb9 := bind_kw (f := "name") FI9 fun _ _ _ _ _ _ _ _ => rfl
  have FI10 := fun_mk (st := inClass (topS 13) 0) lI10 cI10 kI10
  have bI10 := FI10.binds (ps := ["self", "index"]) fun _ _ _ _ _ _ us hl => match us, hl with | [_, _], _ => rfl
  have kb10 := bind_kw (f := "index") FI10 fun _ _ _ _ _ _ _ _ => rfl
  have FI11 := fun_mk (st := inClass (topS 14) 0) lI11 cI11 kI11
  have bI11 := FI11.binds (ps := ["self", "number"]) fun _ _ _ _ _ _ us hl => match us, hl with | [_, _], _ => rfl
  have kb11 := bind_kw (f := "number") FI11 fun _ _ _ _ _ _ _ _ => rfl
  have FI14 := fun_mk (st := inClass (topS 17) 0) lI14 cI14 kI14
  have bI14 := FI14.binds (ps := ["self", "index"]) fun _ _ _ _ _ _ us hl => match us, hl with | [_, _], _ => rfl
  have kb14 := bind_kw (f := "index") FI14 fun _ _ _ _ _ _ _ _ => rfl
  have FG0 := fun_mk (st := topS 26) lG0 cG0 kG0
  have bG0 := FG0.binds (ps := ["_law_cells", "_law_k"]) fun _ _ _ _ _ _ us hl => match us, hl with | [_, _], _ => rfl
  have FG1 := fun_mk (st := topS 27) lG1 cG1 kG1
  have bG1 := FG1.binds (ps := ["_law_cell_here"]) fun _ _ _ _ _ _ us hl => match us, hl with | [_], _ => rfl
  have FG2 := fun_mk (st := topS 28) lG2 cG2 kG2
  have bG2 := FG2.binds (ps := ["_law_purse_here", "_law_many"]) fun _ _ _ _ _ _ us hl => match us, hl with | [_, _], _ => rfl
  have FG3 := fun_mk (st := topS 29) lG3 cG3 kG3
  have bG3 := FG3.binds (ps := ["_law_e"]) fun _ _ _ _ _ _ us hl => match us, hl with | [_], _ => rfl
  have FG4 := fun_mk (st := topS 30) lG4 cG4 kG4
  have bG4 := FG4.binds (ps := ["_law_at", "_law_thing_here"]) fun _ _ _ _ _ _ us hl => match us, hl with | [_, _], _ => rfl
  have FG5 := fun_mk (st := topS 31) lG5 cG5 kG5
  have bG5 := FG5.binds (ps := ["_law_at", "_law_thing_here"]) fun _ _ _ _ _ _ us hl => match us, hl with | [_, _], _ => rfl
  have FG6 := fun_mk (st := topS 32) lG6 cG6 kG6
  have bG6 := FG6.binds (ps := ["_law_e", "_law_at"]) fun _ _ _ _ _ _ us hl => match us, hl with | [_, _], _ => rfl
  have FG7 := fun_mk (st := topS 33) lG7 cG7 kG7
  have bG7 := FG7.binds (ps := ["_law_purse_here"]) fun _ _ _ _ _ _ us hl => match us, hl with | [_], _ => rfl
  have FG8 := fun_mk (st := topS 34) lG8 cG8 kG8
  have bG8 := FG8.binds (ps := ["_law_purse_here"]) fun _ _ _ _ _ _ us hl => match us, hl with | [_], _ => rfl
  have FG9 := fun_mk (st := topS 35) lG9 cG9 kG9
  refine ⟨PySem.W.fnOf "law" "law" (defArgs (topS 35)) (defBody (topS 35)) (defScope (topS 35)) .none kVG9 dcG9 pmG9 anG9 cdG9 ctG9, fun s v => .of_eq rfl, fun base _ _ => ?_⟩
  have M : Mks P w K mg base (fun i => [c0, c1, c2, c3, c4, c5, c6, c7, c8, c9, c10, c11, c12, c13, c14, c15, c16].getD i 0) (fun i => [i0, i1, i2, i3, i4, i5, i6, i7, i8, i9, i10, i11, 0, 0, i14, 0, 0].getD i 0) (fun i => match i with | 0 => PySem.W.fnOf "__init__" "InvalidNumber.__init__" (defArgs (inClass (topS 2) 0)) (defBody (inClass (topS 2) 0)) (defScope (inClass (topS 2) 0)) .none kVI0 dcI0 pmI0 anI0 cdI0 ctI0 | 1 => PySem.W.fnOf "__init__" "InvalidName.__init__" (defArgs (inClass (topS 3) 0)) (defBody (inClass (topS 3) 0)) (defScope (inClass (topS 3) 0)) .none kVI1 dcI1 pmI1 anI1 cdI1 ctI1 | 2 => PySem.W.fnOf "__init__" "InvalidRule.__init__" (defArgs (inClass (topS 4) 0)) (defBody (inClass (topS 4) 0)) (defScope (inClass (topS 4) 0)) .none kVI2 dcI2 pmI2 anI2 cdI2 ctI2 | 3 => PySem.W.fnOf "__init__" "NotFitting.__init__" (defArgs (inClass (topS 5) 0)) (defBody (inClass (topS 5) 0)) (defScope (inClass (topS 5) 0)) .none kVI3 dcI3 pmI3 anI3 cdI3 ctI3 | 4 => PySem.W.fnOf "__init__" "InvalidValues.__init__" (defArgs (inClass (topS 6) 0)) (defBody (inClass (topS 6) 0)) (defScope (inClass (topS 6) 0)) .none kVI4 dcI4 pmI4 anI4 cdI4 ctI4 | 5 => PySem.W.fnOf "__init__" "InvalidDeeds.__init__" (defArgs (inClass (topS 7) 0)) (defBody (inClass (topS 7) 0)) (defScope (inClass (topS 7) 0)) .none kVI5 dcI5 pmI5 anI5 cdI5 ctI5 | 6 => PySem.W.fnOf "__init__" "InvalidText.__init__" (defArgs (inClass (topS 8) 0)) (defBody (inClass (topS 8) 0)) (defScope (inClass (topS 8) 0)) .none kVI6 dcI6 pmI6 anI6 cdI6 ctI6 | 7 => PySem.W.fnOf "__init__" "InvalidCommand.__init__" (defArgs (inClass (topS 9) 0)) (defBody (inClass (topS 9) 0)) (defScope (inClass (topS 9) 0)) .none kVI7 dcI7 pmI7 anI7 cdI7 ctI7 | 8 => PySem.W.fnOf "__init__" "NotAFunction.__init__" (defArgs (inClass (topS 10) 0)) (defBody (inClass (topS 10) 0)) (defScope (inClass (topS 10) 0)) .none kVI8 dcI8 pmI8 anI8 cdI8 ctI8 | 9 => PySem.W.fnOf "__init__" "UnknownName.__init__" (defArgs (inClass (topS 12) 0)) (defBody (inClass (topS 12) 0)) (defScope (inClass (topS 12) 0)) .none kVI9 dcI9 pmI9 anI9 cdI9 ctI9 | 10 => PySem.W.fnOf "__init__" "Refused.__init__" (defArgs (inClass (topS 13) 0)) (defBody (inClass (topS 13) 0)) (defScope (inClass (topS 13) 0)) .none kVI10 dcI10 pmI10 anI10 cdI10 ctI10 | 11 => PySem.W.fnOf "__init__" "Parted.__init__" (defArgs (inClass (topS 14) 0)) (defBody (inClass (topS 14) 0)) (defScope (inClass (topS 14) 0)) .none kVI11 dcI11 pmI11 anI11 cdI11 ctI11 | 14 => PySem.W.fnOf "__init__" "NoMember.__init__" (defArgs (inClass (topS 17) 0)) (defBody (inClass (topS 17) 0)) (defScope (inClass (topS 17) 0)) .none kVI14 dcI14 pmI14 anI14 cdI14 ctI14 | _ => PySem.W.fnOf "law" "law" (defArgs (topS 35)) (defBody (topS 35)) (defScope (topS 35)) .none kVG9 dcG9 pmG9 anG9 cdG9 ctG9) := by
    refine ⟨fun i hi hf => ?_, fun i hi hf => ?_⟩
    · have q := (cls_parts (agg_cls ag hi)).2.2.2.2.1 hf
      have hc : i ∈ [0, 1, 2, 3, 4, 5, 6, 7, 8, 9, 10, 11, 14] := (by decide : ∀ i, i < 17 → hasF i = true → i ∈ [0, 1, 2, 3, 4, 5, 6, 7, 8, 9, 10, 11, 14]) i hi hf
      simp only [List.mem_cons, List.not_mem_nil, or_false] at hc
      rcases hc with rfl | rfl | rfl | rfl | rfl | rfl | rfl | rfl | rfl | rfl | rfl | rfl | rfl
      · exact ⟨hC 0 hi, q.1, nI0, tI0, ok_InvalidNumber FI0 D0 q.1 q.2.1, bI0, kb0⟩
      · exact ⟨hC 1 hi, q.1, nI1, tI1, ok_InvalidName FI1 D0 q.1 q.2.1, bI1, kb1⟩
      · exact ⟨hC 2 hi, q.1, nI2, tI2, ok_InvalidRule FI2 D0 q.1 q.2.1, bI2, kb2⟩
      · exact ⟨hC 3 hi, q.1, nI3, tI3, ok_NotFitting FI3 D0 q.1 q.2.1, bI3, kb3⟩
      · exact ⟨hC 4 hi, q.1, nI4, tI4, ok_InvalidValues FI4 D0 q.1 q.2.1, bI4, kb4⟩
      · exact ⟨hC 5 hi, q.1, nI5, tI5, ok_InvalidDeeds FI5 D0 q.1 q.2.1, bI5, kb5⟩
      · exact ⟨hC 6 hi, q.1, nI6, tI6, ok_InvalidText FI6 D0 q.1 q.2.1, bI6, kb6⟩
      · exact ⟨hC 7 hi, q.1, nI7, tI7, ok_InvalidCommand FI7 D0 q.1 q.2.1, bI7, kb7⟩
      · exact ⟨hC 8 hi, q.1, nI8, tI8, ok_NotAFunction FI8 D0 q.1 q.2.1, bI8, kb8⟩
      · exact ⟨hC 9 hi, q.1, nI9, tI9, ok_UnknownName FI9 D1 q.1 q.2.1, bI9, kb9⟩
      · exact ⟨hC 10 hi, q.1, nI10, tI10, ok_Refused FI10 D1 q.1 q.2.1, bI10, kb10⟩
      · exact ⟨hC 11 hi, q.1, nI11, tI11, ok_Parted FI11 D1 q.1 q.2.1, bI11, kb11⟩
      · exact ⟨hC 14 hi, q.1, nI14, tI14, ok_NoMember FI14 D1 q.1 q.2.1, bI14, kb14⟩
    · have q := (cls_parts (agg_cls ag hi)).2.2.2.2.2 hf
      exact ⟨hC i hi, q.1, q.2⟩
  have no : ∀ i, i < 17 → hasF i = true → PySem.W.findIn K (.ref ([c0, c1, c2, c3, c4, c5, c6, c7, c8, c9, c10, c11, c12, c13, c14, c15, c16].getD i 0)) (fname i) = some none := fun i hi hf => ((cls_parts (agg_cls ag hi)).2.2.2.2.1 hf).2.2
  have NB : Nb mg := ⟨Z zlen, Z zint, Z zabs, Z zstr⟩
  have LM : Lim mg := ⟨⟨_, PySem.W.mg_of X G mRANK⟩, ⟨_, PySem.W.mg_of X G mSTATES⟩, hbig, ⟨_, PySem.W.mg_of X G mTOGETHER⟩, Z zrepr, Z zrange, Z zmax, Z zmin, Z zlen, Z zall⟩
  have oDr := ok_draw (P := P) (w := w) (base := base) FG2 NB
  have oTh := ok_thing (P := P) (w := w) (base := base) FG7 NB oDr bG2 (PySem.W.mg_of X G nG2) kG2
  have oEr := ok_err (P := P) (w := w) (base := base) FG3 T
  have oPl := ok_law_placed FG4 M
  have oNm := ok_law_named FG5 M
  have oFl := ok_field (P := P) (w := w) (base := base) FG6 T no
  have oRi := ok_right FG8 (Z zrange) (Z zrepr) ⟨oTh, bG7, PySem.W.mg_of X G nG7, kG7⟩ ⟨oPl, bG4, PySem.W.mg_of X G nG4, kG4⟩ ⟨oNm, bG5, PySem.W.mg_of X G nG5, kG5⟩ ⟨oEr, bG3, PySem.W.mg_of X G nG3, kG3⟩ ⟨oFl, bG6, PySem.W.mg_of X G nG6, kG6⟩
  exact ok_law FG9 LM ⟨ok_cell FG0 NB, bG0, PySem.W.mg_of X G nG0, kG0⟩ ⟨ok_purse FG1 NB, bG1, PySem.W.mg_of X G nG1, kG1⟩ oRi bG8 (PySem.W.mg_of X G nG8) kG8
end L2.EK


namespace L2.EK
open PySem PySem.Spec PyProof.Rows
theorem walk {l : PySem.W.OpenLaw} {q : Program} {loose : List Str} {XP : (Str → Option Value) → Heap → Prop} {YP : World → Heap → Prop} {d : DefRec} {K : Params → PySem.W.Frag} (hn : l.most = some 63) (hdf : d.params.defaults = [])
    (hY : ∀ (w : World) (h : Heap), YP w h → (K w.params).In h)
    (F : ∀ (w : World) (mg : Str → Option Value) (fa : Addr) (h : Heap), (K w.params).In h → h.Ns mainGlobals mg → XP mg h → mg d.name = some (.ref fa) →
      ∃ fd : FuncData, (∀ (s : Shared) (u : Value), BindsTo s fd ⟨[u], []⟩ [("_law_cells", u)]) ∧ ∀ base : Heap, (K w.params).In base → base.Ns mainGlobals mg → FnG l.prog w (K w.params) mg base CX0 5 fa fd ["_law_cells"] (spLaw (K w.params))) :
    PySem.W.WalkO q loose XP YP l.row.toRowW d [] (fun f vs => PySem.call f vs) :=
  walk_ofG (n := 63) (k := 5) (x := "_law_cells") (CX := fun _ => CX0) (sp := fun w => spLaw (K w.params)) hn (by decide) hdf ⟨rfl, by decide, by decide⟩ hY F (fun _ _ a ns hl _ hS => ⟨a, ns, rfl, hS, hl, fun _ => rfl⟩) fun _ _ _ _ _ z => z
theorem big_lit {p : Program} {N : Int} {mg : Str → Option Value} {h : Heap} (x : PySem.W.XL p [("LARGEST", .int N)] mg h) (e : N = big) : ∃ t, mg "LARGEST" = some (.int big t) := by
  obtain ⟨v, hv, hr⟩ := x.2.val ("LARGEST", .int N) (List.mem_singleton.mpr rfl)
  subst e
  cases hr with
  | int i t => exact ⟨t, hv⟩
end L2.EK
open PySem PySem.W PyProof.Rows
set_option maxRecDepth 100000 in
set_option maxHeartbeats 0 in
theorem PySem.Challenge.cw_halverules_k01_errors_and_limits_holds : PySem.Challenge.rw_halverules_k01_errors_and_limits.Holds := by
  w_on; o_law; k_head; (case hw => w_witness2)
  k_fill
  refine L2.EK.walk (l := PySem.Challenge.rw_halverules_k01_errors_and_limits) rfl rfl (fun w h Y => PySem.W.kIn_of Y) ?F
  case F =>
    intro w mg fa h KX G XP hmg
    have hb := L2.EK.big_lit XP (by decide +kernel)
    refine' L2.EK.all_mk KX G hmg hb ?aC0 ?aC1 ?aC2 ?aC3 ?aC4 ?aC5 ?aC6 ?aC7 ?aC8 ?aC9 ?aC10 ?aC11 ?aC12 ?aC13 ?aC14 ?aC15 ?aC16 ?aD0 ?aD1 ?aD2 ?ag ?vV0 ?vV1 ?nI0 ?lI0 ?cI0 ?kI0 ?tI0 ?nI1 ?lI1 ?cI1 ?kI1 ?tI1 ?nI2 ?lI2 ?cI2 ?kI2 ?tI2 ?nI3 ?lI3 ?cI3 ?kI3 ?tI3 ?nI4 ?lI4 ?cI4 ?kI4 ?tI4 ?nI5 ?lI5 ?cI5 ?kI5 ?tI5 ?nI6 ?lI6 ?cI6 ?kI6 ?tI6 ?nI7 ?lI7 ?cI7 ?kI7 ?tI7 ?nI8 ?lI8 ?cI8 ?kI8 ?tI8 ?nI9 ?lI9 ?cI9 ?kI9 ?tI9 ?nI10 ?lI10 ?cI10 ?kI10 ?tI10 ?nI11 ?lI11 ?cI11 ?kI11 ?tI11 ?nI14 ?lI14 ?cI14 ?kI14 ?tI14 ?nG0 ?lG0 ?cG0 ?kG0 ?nG1 ?lG1 ?cG1 ?kG1 ?nG2 ?lG2 ?cG2 ?kG2 ?nG3 ?lG3 ?cG3 ?kG3 ?nG4 ?lG4 ?cG4 ?kG4 ?nG5 ?lG5 ?cG5 ?kG5 ?nG6 ?lG6 ?cG6 ?kG6 ?nG7 ?lG7 ?cG7 ?kG7 ?nG8 ?lG8 ?cG8 ?kG8 ?nG9 ?lG9 ?cG9 ?kG9 ?mRANK ?mSTATES ?mTOGETHER ?zisinstance ?zValueError ?zLookupError ?zArithmeticError ?zlen ?zint ?zabs ?zstr ?zrange ?zrepr ?zmax ?zmin ?zall
    (case aC0 => k_is)
    (case aC1 => k_is)
    (case aC2 => k_is)
    (case aC3 => k_is)
    (case aC4 => k_is)
    (case aC5 => k_is)
    (case aC6 => k_is)
    (case aC7 => k_is)
    (case aC8 => k_is)
    (case aC9 => k_is)
    (case aC10 => k_is)
    (case aC11 => k_is)
    (case aC12 => k_is)
    (case aC13 => k_is)
    (case aC14 => k_is)
    (case aC15 => k_is)
    (case aC16 => k_is)
    (case aD0 => k_is)
    (case aD1 => k_is)
    (case aD2 => k_is)
    (case vV0 => k_is)
    (case vV1 => k_is)
    (case nI0 => k_is)
    (case lI0 => k_is)
    (case cI0 => k_is)
    (case kI0 => k_is)
    (case tI0 => k_is)
    (case nI1 => k_is)
    (case lI1 => k_is)
    (case cI1 => k_is)
    (case kI1 => k_is)
    (case tI1 => k_is)
    (case nI2 => k_is)
    (case lI2 => k_is)
    (case cI2 => k_is)
    (case kI2 => k_is)
    (case tI2 => k_is)
    (case nI3 => k_is)
    (case lI3 => k_is)
    (case cI3 => k_is)
    (case kI3 => k_is)
    (case tI3 => k_is)
    (case nI4 => k_is)
    (case lI4 => k_is)
    (case cI4 => k_is)
    (case kI4 => k_is)
    (case tI4 => k_is)
    (case nI5 => k_is)
    (case lI5 => k_is)
    (case cI5 => k_is)
    (case kI5 => k_is)
    (case tI5 => k_is)
    (case nI6 => k_is)
    (case lI6 => k_is)
    (case cI6 => k_is)
    (case kI6 => k_is)
    (case tI6 => k_is)
    (case nI7 => k_is)
    (case lI7 => k_is)
    (case cI7 => k_is)
    (case kI7 => k_is)
    (case tI7 => k_is)
    (case nI8 => k_is)
    (case lI8 => k_is)
    (case cI8 => k_is)
    (case kI8 => k_is)
    (case tI8 => k_is)
    (case nI9 => k_is)
    (case lI9 => k_is)
    (case cI9 => k_is)
    (case kI9 => k_is)
    (case tI9 => k_is)
    (case nI10 => k_is)
    (case lI10 => k_is)
    (case cI10 => k_is)
    (case kI10 => k_is)
    (case tI10 => k_is)
    (case nI11 => k_is)
    (case lI11 => k_is)
    (case cI11 => k_is)
    (case kI11 => k_is)
    (case tI11 => k_is)
    (case nI14 => k_is)
    (case lI14 => k_is)
    (case cI14 => k_is)
    (case kI14 => k_is)
    (case tI14 => k_is)
    (case nG0 => k_is)
    (case lG0 => k_is)
    (case cG0 => k_is)
    (case kG0 => k_is)
    (case nG1 => k_is)
    (case lG1 => k_is)
    (case cG1 => k_is)
    (case kG1 => k_is)
    (case nG2 => k_is)
    (case lG2 => k_is)
    (case cG2 => k_is)
    (case kG2 => k_is)
    (case nG3 => k_is)
    (case lG3 => k_is)
    (case cG3 => k_is)
    (case kG3 => k_is)
    (case nG4 => k_is)
    (case lG4 => k_is)
    (case cG4 => k_is)
    (case kG4 => k_is)
    (case nG5 => k_is)
    (case lG5 => k_is)
    (case cG5 => k_is)
    (case kG5 => k_is)
    (case nG6 => k_is)
    (case lG6 => k_is)
    (case cG6 => k_is)
    (case kG6 => k_is)
    (case nG7 => k_is)
    (case lG7 => k_is)
    (case cG7 => k_is)
    (case kG7 => k_is)
    (case nG8 => k_is)
    (case lG8 => k_is)
    (case cG8 => k_is)
    (case kG8 => k_is)
    (case nG9 => k_is)
    (case lG9 => k_is)
    (case cG9 => k_is)
    (case kG9 => k_is)
    (case mRANK => k_is)
    (case mSTATES => k_is)
    (case mTOGETHER => k_is)
    (case zisinstance => k_is)
    (case zValueError => k_is)
    (case zLookupError => k_is)
    (case zArithmeticError => k_is)
    (case zlen => k_is)
    (case zint => k_is)
    (case zabs => k_is)
    (case zstr => k_is)
    (case zrange => k_is)
    (case zrepr => k_is)
    (case zmax => k_is)
    (case zmin => k_is)
    (case zall => k_is)
    (case ag => kernel_rfl)
