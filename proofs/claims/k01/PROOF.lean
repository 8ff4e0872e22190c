import PyProof.Rows.All
import Wide.All
import OpenK.AllK
import Wide.FinOn
import HandS.ForMost
import HandS.Style
import HandS.Codes
import HandS.ExcInit
import HandS.ExcIs
import HandS.IsInst
import HandS.ExcOwn
import HandS.TryOnly
import KE.KExcInit
import KE.KExcIs
import KE.KExcMake
import PySem.Challenge.RW_piecesseen_k01_errors
import HandS.HotCalls
import HandS.WordsExc
import HandS.Walk
set_option Elab.async false
set_option linter.all false
set_option maxRecDepth 100000
set_option maxHeartbeats 4000000
namespace Vx
open PySem PySem.W PySem.Calls PyProof.Rows
section
variable {M : Model} {A : Around} {E : Value → Shared → Prop} {h : Heap} {g : Array GenState} {d : Drawn} {t : Nat} {os : OsState}
variable {nm q : Str} {C N : Addr} {bs bm bmB : List Value} {hdct : Bool} {sn : List Str} {sub : List Value} {ab : Bool} {col : Option Bool} {dd : Option Addr} {k0 k1 k2 k3 k5 : Option Value} {B newId initId : String}
/-- what __new__ of an exception class checks: any values, any keywords -/
theorem check_newK (FB : ExcBaseFacts B newId initId bmB) (hT : ∀ X : String, bm.contains (.type X) = bmB.contains (.type X)) {rest : List Value} {kw : List (Str × Value)} {Q : Unit → Shared → Prop}
    (hC : h.get? C = some (excClassObj nm q C N bs bm hdct sn sub ab col dd k0 k1 k2 k3 k5 newId)) (hq : Q () ⟨h, g, d, t, os⟩) : wpAny M A (checkBuiltinCall newId ⟨.ref C :: rest, kw⟩) Q E ⟨h, g, d, t, os⟩ := by
  have hB : (Value.ref C :: bm).contains (.type B) = true := by
    rw [List.contains_cons, hT, FB.hasB]
    exact Bool.or_true _
  have hst := FB.noStar
  simp only [checkBuiltinCall, FB.newKind, FB.newSplit, FB.newRow]
  repeat (first | refine wpAny_loadPart_at hC ?_ | (refine wpAny_isSubtype_exc hC ?_; rw [hB]) | refine wpAny_staticBase_exc hC ?_ | refine wpAny_madeBy_exc hC ?_ | simp only [bne_self_eq_false, Bool.false_eq_true, if_false] | wp_step)
  exact hq
end
section
variable {prog : Program} {w : World} {A : Around} {E : Value → Shared → Prop} {R : Result → Shared → Prop} {h : Heap} {g : Array GenState} {d : Drawn} {t : Nat} {os : OsState}
variable {nm q : Str} {C N : Addr} {bs bm bmB : List Value} {hdct : Bool} {sn : List Str} {sub : List Value} {ab : Bool} {col : Option Bool} {dd : Option Addr} {k0 k1 k2 k3 k5 : Option Value} {B newId initId : String}
/-- the heap behind __new__ -/
abbrev madeH (h : Heap) (rest : List Value) (C : Addr) : Heap := (h.push (kdv_tup rest)).push (PySem.HandSPX.excO C h.objs.size)
theorem new_ownK (FB : ExcBaseFacts B newId initId bmB) (hT : ∀ X : String, bm.contains (.type X) = bmB.contains (.type X)) {rest : List Value} {kw : List (Str × Value)}
    (hC : h.get? C = some (excClassObj nm q C N bs bm hdct sn sub ab col dd k0 k1 k2 k3 k5 newId)) (hl : rest.length ≤ sizeLine)
    (hq : R (.ok (.ret (.ref (h.objs.size + 1)))) ⟨madeH h rest C, g, d, t, os⟩) :
    codeAny (model prog w) A (.builtin newId ⟨.ref C :: rest, kw⟩) R ⟨h, g, d, t, os⟩ := by
  have he := FB.ends
  have hB : (Value.ref C :: bm).contains (.type B) = true := by
    rw [List.contains_cons, hT, FB.hasB]
    exact Bool.or_true _
  have hA : (Value.ref C :: bm).contains (.type "AttributeError") = false := by
    rw [List.contains_cons, hT, FB.noAttr] <;> rfl
  have hN : (Value.ref C :: bm).contains (.type "NameError") = false := by
    rw [List.contains_cons, hT, FB.noName] <;> rfl
  refine codeAny_builtinAt FB.entry ?_
  unfold Builtin.«BaseException.__new__»; refine PySem.wpAt_bind ?_
  show PySem.wpAt _ _ _ (stack >>= _) _ _ _
  refine PySem.wpAt_bind (PySem.wpAt_stack fun p below => PySem.wpAt_of_wpAny ?_)
  wp_walk
  refine PySem.wpAt_of_wpAny ?_
  rw [FB.owner]
  repeat (first | with_reducible refine wpAny_madeHere_exc FB.canon hC ?_ | with_reducible refine wpAny_loadPart_at hC ?_ | (with_reducible refine wpAny_isSubtype_exc hC ?_; first | rw [hB] | rw [hA] | rw [hN]) | wp_step)
  show R _ _
  rw [Heap.size_push]
  exact hq
theorem type_callK (FB : ExcBaseFacts B newId initId bmB) (hT : ∀ X : String, bm.contains (.type X) = bmB.contains (.type X)) {rest : List Value} {kw : List (Str × Value)} {fI : Addr} {Q : Fin → Shared → Prop}
    (hC : h.get? C = some (excClassObj nm q C N bs bm hdct sn sub ab col dd k0 k1 k2 k3 k5 newId)) (hl : rest.length ≤ sizeLine)
    (hi : Looks (model prog w) h (typeLookup (.ref C) "__init__") (some (.ref fI))) (hb : ∀ self, Looks (model prog w) h (bindSpecial (.ref fI) self) (.ref fI, [self]))
    (hq : codeAny (model prog w) A (.call (.ref fI) ⟨.ref (h.objs.size + 1) :: rest, kw⟩)
      (fun r s' => match r with | .ok (.ret v) => v = .none ∧ Q (.done (.ret (.ref (h.objs.size + 1)))) s' | .ok _ => False | .error e => E e s') ⟨madeH h rest C, g, d, t, os⟩) :
    wpAny (model prog w) A (Builtin.«type.__call__» ⟨.ref C :: rest, kw⟩) Q E ⟨h, g, d, t, os⟩ := by
  repeat (first | with_reducible refine wpAny_loadPart_at hC ?_ | with_reducible refine wpAny_madeBy_exc hC ?_ | wp_step)
  refine codeAny_call_builtin_code (Code.quiet_builtin _ FB.quiet) (check_newK FB hT hC ?_)
  refine new_ownK FB hT hC hl ?_
  show wpAny _ _ _ _ _ _
  have k : ∀ b o, h.get? b = some o → (madeH h rest C).get? b = some o := fun b o e => Heap.get?_push_of_some _ (Heap.get?_push_of_some _ e)
  have hC1 := k _ _ hC
  have hg : (madeH h rest C).get? (h.objs.size + 1) = some (PySem.HandSPX.excO C h.objs.size) := by heap_get
  have hcC : (Value.ref C :: bm).contains (.ref C) = true := by simp
  have i1 := hi.keeps k
  have b1 := (hb (.ref (h.objs.size + 1))).keeps k
  unfold isInstance
  repeat (first | with_reducible refine wpAny_loadPart_at hg ?_ | (with_reducible refine wpAny_isSubtype_exc hC1 ?_; rw [hcC]) | wp_step)
  show wpAny _ _ (typeLookup (.ref C) _) _ _ _
  refine i1.at ?_
  refine wpAny_holding (wpAny_bind (b1.at ?_))
  refine wpAny_bind (wpAny_call (codeAny_mono hq fun r s' z => ?_))
  rcases r with e | (v | _ | _ | _) <;> first | exact z | exact z.elim | skip
  obtain ⟨rfl, z⟩ := z
  first
    | exact wpAny_pure (wpAny_pure z)
    | (wp_walk; exact z)
theorem call_ownK (FB : ExcBaseFacts B newId initId bmB) (hT : ∀ X : String, bm.contains (.type X) = bmB.contains (.type X)) {rest : List Value} {kw : List (Str × Value)} {fI : Addr}
    (hC : h.get? C = some (excClassObj nm q C N bs bm hdct sn sub ab col dd k0 k1 k2 k3 k5 newId)) (hl : rest.length ≤ sizeLine)
    (hi : Looks (model prog w) h (typeLookup (.ref C) "__init__") (some (.ref fI))) (hb : ∀ self, Looks (model prog w) h (bindSpecial (.ref fI) self) (.ref fI, [self]))
    (hq : codeAny (model prog w) (A.under (.builtin "type.__call__" ⟨.ref C :: rest, kw⟩)) (.call (.ref fI) ⟨.ref (h.objs.size + 1) :: rest, kw⟩) (InitBack (h.objs.size + 1) R) ⟨madeH h rest C, g, d, t, os⟩) :
    codeAny (model prog w) A (.call (.ref C) ⟨rest, kw⟩) R ⟨h, g, d, t, os⟩ := by
  have f1 := tc_lookup
  have f2 := tc_bind (.ref C)
  have f3 := tc_sub
  have hTy : (⟨h, g, d, t, os⟩ : Shared).TypeIs (.ref C) "type" := ⟨_, hC, rfl⟩
  have ck : ∀ {A' : Around} {E' : Value → Shared → Prop} {Q : Unit → Shared → Prop}, Q () ⟨h, g, d, t, os⟩ → wpAny (model prog w) A' (checkBuiltinCall "type.__call__" ⟨.ref C :: rest, kw⟩) Q E' ⟨h, g, d, t, os⟩ := by
    intro A' E' Q hq
    simp only [checkBuiltinCall, tc_kind, tc_split]
    repeat (any_goals (first | assumption | with_reducible refine wpAny_loadPart_at hC ?_ | with_reducible refine wpAny_onRaise ?_ | with_reducible refine wpAny_map ?_ | wp_step))
  refine codeAny_of_tree ?_
  show wpAny _ _ (callAny (.ref C) _) _ _ _
  repeat (any_goals (first | assumption | with_reducible refine wpAny_loadPart_at hC ?_ | wp_step))
  refine ⟨rfl, ?_⟩
  refine codeAny_call_builtin_at (Code.quiet_builtin _ (by decide +kernel)) entry_typeCall (ck (type_callK FB hT hC hl hi hb ?_))
  refine codeAny_mono hq fun r s' z => ?_
  rcases r with e | (v | _ | _ | _) <;> exact z
end
end Vx

set_option Elab.async false
set_option linter.all false
set_option maxRecDepth 100000
set_option maxHeartbeats 4000000
namespace L2
namespace Vx
open PySem PySem.Spec PyProof.Rows _root_.Vx
abbrev exTail : List Value := [.type "Exception", .type "BaseException", .type "object"]
theorem exTail_ne {l : List Value} (e : PySem.W.excTail exTail l = true) : l.isEmpty = false := by
  cases l with
  | nil => exact absurd e (by decide)
  | cons _ _ => rfl
section
open PySem.W PySem.Calls Builtin Builtin.ObjectAttr
variable {prog : Program} {w : World} {A : Around} {E : Value → Shared → Prop} {R : Result → Shared → Prop} {hp : Heap} {g : Array GenState} {d : Drawn} {t : Nat} {os : OsState}
/-- self.name = v on an exception of an own class over Exception that has no dict yet -/
theorem osaE {K : W.Frag} {name : Str} {tk : Tok} {v : Value} {x C : Addr} {fv : Array Value} {cd : ClassData}
    (X : K.In hp) (hx : hp.get? x = some { cls := .ref C, data := .fields fv }) (hcd : W.clsIn K C = some cd) (hm : excTail exTail cd.mro = true) (hh : cd.hasDict = true) (ha : W.findIn K (.ref C) name = some none)
    (hq : ∀ h' tk' dx, (∀ b o, b ≠ x → hp.get? b = some o → h'.get? b = some o) → hp.objs.size ≤ dx → dx ≠ x → h'.get? x = some { cls := .ref C, dict := some dx, data := .fields fv } →
      h'.Ns1 dx (fun y => if y = name then some v else none) → R (.ok (.ret .none)) ⟨h', g, d, tk', os⟩) :
    codeAny (model prog w) A (.call (.builtin "object.__setattr__") ⟨[.ref x, .str name tk, v], []⟩) R ⟨hp, g, d, t, os⟩ := by
  have SF := F.store_object
  have I : W.InstAt hp x { cls := .ref C, data := .fields fv } C none := ⟨hx, rfl, rfl, trivial⟩
  have ne := exTail_ne hm
  have hob : cd.mro.contains (.type "object") = true := (excTail_contains "object" _ hm).trans (by decide +kernel)
  have hxs : x ≠ hp.objs.size := Nat.ne_of_lt (Heap.lt_size hx)
  have hmi : W.mroIn K C (.type "object") = some true := by
    unfold W.mroIn
    rw [hcd, Option.bind_some, if_neg (by rw [ne]; decide), hob]
  have sub : W.Looks (model prog w) hp (isInstance (.ref x) (.type "object")) true := I.type.andThen (W.looks_mroIn X hmi)
  refine codeAny_call_builtin SF.slot.plain SF.entry (@W.check_slot (model prog w) _ _ ⟨hp, g, d, t, os⟩ "object.__setattr__" "object" "__setattr__" (.ref x) [.str name tk, v] [] _ SF.kind SF.split sub (SF.args (.ref x) (.str name tk) v) ?_)
  have hmr : W.Looks (model prog w) hp (mroOf (.ref C)) cd.mro := (W.looks_clsIn X hcd).andThen .now
  have L3 : W.Looks (model prog w) hp (storeTaker? none) none := .now
  have hcls : W.Looks (model prog w) hp (classData C) cd := W.looks_clsIn X hcd
  rw [W.osa_eq, refuse_eq]
  refine wpAny_bind (wpAny_bind (I.type.at (wpAny_bind (hmr.at ?_))))
  rw [excTail_pass _ (F.store_Exception.passes _) _ hm]
  refine wpAny_pure (wpAny_bind (I.type.at (wpAny_bind ((W.looks_findIn X ha).at (wpAny_bind (L3.at ?_))))))
  show wpAny _ _ (storeInOwnDict (.ref x) (.ref C) (.str name tk) name v false) _ _ _
  obtain ⟨nm, bs, mro, ns, qn, hd, sn, sb, ab, col, del⟩ := cd
  dsimp only at hh
  subst hh
  unfold storeInOwnDict ownDictForStores
  repeat (first | with_reducible refine PySem.HandSPX.store_in_new ?_ ?_ | with_reducible refine wpAny_loadPart_at hx ?_ | with_reducible refine hcls.at ?_ | wp_step)
  · exact ⟨_, #[], _, (Heap.get?_update_ne _ _ _ _ hxs.symm).trans (Heap.get?_push_at rfl rfl), rfl, fun e he => absurd he (by simp), fun _ => rfl⟩
  · intro h' tk' hn' hs
    have hx1 : (hp.push { cls := .type "dict", data := .dict #[] }).get? x = some { cls := .ref C, data := .fields fv } := Heap.get?_push_of_some _ hx
    refine hq h' tk' hp.objs.size (fun b o hb ho => ?_) (Nat.le_refl _) hxs.symm ?_ hn'
    · exact (hs.2 b (Nat.ne_of_lt (Heap.lt_size ho))).trans ((Heap.get?_update_ne _ _ _ _ hb).trans (Heap.get?_push_of_some _ ho))
    · exact (hs.2 x hxs).trans (Heap.get?_update_self _ hx1 rfl)
end
/-- what the written part says of an own exception class over Exception -/
structure OexE (K : PySem.W.Frag) (C : Addr) : Prop where
  cls : ∃ nm q N bs bm sn sub ab col dd k0 k1 k2 k3 k5, K.lookup C = some (excClassObj nm q C N bs bm true sn sub ab col dd k0 k1 k2 k3 k5 "Exception.__new__") ∧ PySem.W.excTail exTail bm = true
  sa : PySem.W.findIn K (.ref C) "__setattr__" = some (some (.builtin "object.__setattr__"))
  ga : PySem.W.findIn K (.ref C) "__getattribute__" = some (some (.builtin "BaseException.__getattribute__"))
  gg : PySem.W.findIn K (.ref C) "__getattr__" = some none
  ca : PySem.W.findIn K (.ref C) "__class__" = some (some (.builtin "object.__class__"))
  cn : PySem.W.specialIn K (.builtin "object.__class__") "__get__" = some (some (.builtin "getset_descriptor.__get__"))
  ct : PySem.W.takesIn K (.builtin "object.__class__") = some true
  cm : PySem.W.mroIn K C (.type "object") = some true
  exC : PySem.W.subIn K (.ref C) (.type "BaseException") = some true
  tyC : PySem.W.typeIn K (.ref C) = some (.type "type")
  hdC : PySem.W.hasDictIn K C = true
  kC : PySem.W.keepIn K (.ref C) = true
section
variable {X : Cx} {pins : List (Addr × Obj)} {σ : St} {H : Hp} {s : Shared} {a C dx : Addr} {f : Str} {y : V} {u : Value} {fs : List (Str × V)} {Q : Unit → Shared → Prop} {E : Value → Shared → Prop} {A : Around}
theorem ost_newE (T : OexE X.K C) (I : Inv X pins σ H s) (e : H a = some (exo a C none)) (hno : PySem.W.findIn X.K (.ref C) f = some none) (ry : RelV y u)
    (h : ∀ dx s', H dx = none → dx ≠ a → Inv X pins σ (upd (upd H dx (exd dx [(f, y)])) a (exo a C (some dx))) s' → Q () s') : wpAny (model X.prog X.w) A (setAttr (.ref a) f u) Q E s := by
  obtain ⟨nm, q, N, bs, bm, sn, sub, ab, col, dd, k0, k1, k2, k3, k5, hC, hbm⟩ := T.cls
  have hcl : PySem.W.clsIn X.K C = some { name := nm, bases := bs, mro := .ref C :: bm, ns := N, qualname := q, hasDict := true, slotNames := sn, subclasses := sub, abstract := ab, collection := col, hasDel := false } := by
    unfold PySem.W.clsIn
    rw [hC] <;> rfl
  obtain ⟨t1, ho⟩ := exo_at I.hok e
  obtain ⟨hp, g, d, t, os⟩ := s
  refine PySem.W.set_plain I.kIn (ox := { cls := .ref C, dict := none, data := .fields #[.ref t1, .none, .none, .none, .bool false, .none] }) (od := none) ⟨ho, rfl, rfl, trivial⟩ T.sa ?_
  refine osaE I.kIn ho hcl (show PySem.W.excTail exTail (.ref C :: bm) = true from hbm) rfl hno (fun h' tk' dx k dn dne hx hn => ?_)
  have hnd : H dx = none := I.hok.fresh dn
  have nd : ∀ {b : Addr} {o : Obj}, hp.get? b = some o → b ≠ dx := fun {b o} q => Nat.ne_of_lt (Nat.lt_of_lt_of_le (Heap.lt_size q) dn)
  have na : ∀ {b : Addr}, H b = none → b ≠ a := fun {b} n z => by rw [z, e] at n; cases n
  have U : Un X.fs [] H (upd (upd H dx (exd dx [(f, y)])) a (exo a C (some dx))) hp h' := by
    refine ⟨fun b o q n _ _ => k b o (na n) q, fun b o q n _ _ => ⟨o.slots, k b o (na n) q⟩, fun b o q n _ => ?_, fun b o q _ => ?_, fun b xs q => ?_, fun b o v q => ?_, fun b ps q => ⟨#[], ?_⟩⟩
    · rw [upd_ne (na n), upd_ne (nd q)]; exact n
    · by_cases hb : b = a
      · exact ⟨_, by rw [hb]; exact hx⟩
      · exact ⟨o, k b o hb q⟩
    · rw [upd_ne (at_ne e q exo_tup), upd_ne (ne_of_none q hnd)]; exact q
    · rw [upd_ne (at_ne e q exo_frz), upd_ne (ne_of_none q hnd)]; exact q
    · rw [upd_ne (at_ne e q exo_tbl), upd_ne (ne_of_none q hnd), q]; simp
  refine h dx _ hnd dne (I.un (t' := tk') U fun b o q => ?_)
  by_cases hb : b = a
  · subst hb
    rw [upd_same] at q
    cases q
    exact exo_ok hx
  · rw [upd_ne hb] at q
    by_cases hd : b = dx
    · subst hd
      rw [upd_same] at q
      cases q
      exact exd_ok hn (relO_put (fs := []) ry fun g => True.intro)
    · rw [upd_ne hd] at q
      refine (I.hok b o q).stay (fun c v hc z => k c v ?_ z) (fun c hc => ?_) (fun c xs hc => ?_)
      · rcases hc with hc | hc
        · rw [hc]; exact hb
        · exact at_ne e hc exo_own
      · rw [upd_ne (at_ne e hc exo_own), upd_ne (ne_of_none hc hnd)]; exact hc
      · rw [upd_ne (at_ne e hc exo_tup), upd_ne (ne_of_none hc hnd)]; exact hc
end
/-- self.f = e in __init__ -/
def tOstE (K : PySem.W.Frag) (f : Str) (to te : TE) : TS := fun D σ H => te σ H fun y H1 => to σ H1 fun x H2 => ∃ a C : Addr, x = .ref a ∧ OexE K C ∧ PySem.W.findIn K (.ref C) f = some none ∧
  H2 a = some (exo a C none) ∧ ∀ dx, H2 dx = none → dx ≠ a → D.nx σ (upd (upd H2 dx (exd dx [(f, y)])) a (exo a C (some dx)))
theorem ps_ostE {X : Cx} {o e : Expr} {to te : TE} {f : Str} {p' pos : Pos} (ho : PE X o to) (he : PE X e te) (hs : swapsWith e (some (.Attribute o f p')) pos.line X.env = pure false := by rfl) : PS X (.Assign [.Attribute o f p'] e pos) (tOstE X.K f to te) := by
  refine ⟨fun pins s σ H D I h => ?_⟩
  refine plainObj_wpAny_Assign_Attribute (thn (he.run pins s σ H _ I h) fun v s1 ⟨y, H1, I1, r1, q1⟩ => thn (ho.run pins s1 σ H1 _ I1 q1) fun u s2 ⟨x, H2, I2, r2, a, C, ex, T, hno, ea, q⟩ => ?_) hs
  subst ex
  obtain rfl : u = Value.ref a := r2
  exact ost_newE T I2 ea hno r1 fun dx s' n ne J => ⟨σ, _, J, q dx n ne⟩
/-- what __init__ of such a class promises -/
def spInitE (C : Addr) (f : Str) : Sp := fun vs H Q _ => ∃ (a : Addr) (v : V), vs = [.ref a, v] ∧ H a = some (exo a C none) ∧ ∀ dx, H dx = none → dx ≠ a → Q .non (upd (upd H dx (exd dx [(f, v)])) a (exo a C (some dx)))
section
variable {X : Cx} {pins : List (Addr × Obj)} {σ : St} {H : Hp} {s : Shared} {C fI : Addr} {k : Nat} {fdI : FuncData} {f : Str}
/-- the class: its facts, its __init__ and the promise of that -/
structure ExK (P : Program) (w : World) (K : PySem.W.Frag) (mg : Str → Option Value) (base : Heap) (C : Addr) (f : Str) (k : Nat) : Prop where
  T : OexE K C
  no : PySem.W.findIn K (.ref C) f = some none
  ini : ∃ (fI : Addr) (fdI : FuncData), PySem.W.findIn K (.ref C) "__init__" = some (some (.ref fI)) ∧ PySem.W.typeIn K (.ref fI) = some (.type "function") ∧
    FnOk P w K mg base CX0 k fI fdI ["self", f] (spInitE C f) ∧
    (∀ (s : Shared) (a u : Value), BindsTo s fdI ⟨[a, u], []⟩ [("self", a), (f, u)]) ∧ ∀ (s : Shared) (a u : Value), BindsTo s fdI ⟨[a], [(f, u)]⟩ [("self", a), (f, u)]
/-- what holds behind C(v), C(f=v): a new exception at a, its dict at d -/
def MadeE (C : Addr) (f : Str) (v : V) (H : Hp) (Q : VK) : Prop := ∀ a d H', H a = none → H d = none → d ≠ a → Same H H' → H' a = some (exo a C (some d)) → H' d = some (exd d [(f, v)]) → Q (.ref a) H'
theorem run_exE {Q : VK} {u : Value} {v : V} {rest : List Value} {kw : List (Str × Value)} (Z : ExK X.prog X.w X.K X.mg X.base C f k) (hr : Room (k + 1) X.A) (I : Inv X pins σ H s) (r : RelV v u) (hk : (rest = [u] ∧ kw = []) ∨ (rest = [] ∧ kw = [(f, u)]))
    (h : MadeE C f v H Q) : wpAny (model X.prog X.w) X.A (call (.ref C) rest kw) (EP X pins σ Q) X.xe s := by
  obtain ⟨T, _, fI, fdI, iC, tI, F1, hb1, hb2⟩ := Z
  obtain ⟨nm, q, N, bs, bm, sn, sub, ab, col, dd, k0, k1, k2, k3, k5, hC, hbm⟩ := T.cls
  obtain ⟨hp, g, dr, tk, os⟩ := s
  have hsz : hp.objs.size ≤ hp.objs.size + 1 := Nat.le_succ _
  have hn : H (hp.objs.size + 1) = none := I.hok.fresh hsz
  have kk : ∀ b o, hp.get? b = some o → (madeH hp rest C).get? b = some o := fun b o e => Heap.get?_push_of_some _ (Heap.get?_push_of_some _ e)
  have hget : (madeH hp rest C).get? (hp.objs.size + 1) = some (PySem.HandSPX.excO C hp.objs.size) := by heap_get
  have I2 : Inv X pins σ (upd H (hp.objs.size + 1) (exo (hp.objs.size + 1) C none)) ⟨madeH hp rest C, g, dr, tk, os⟩ :=
    I.laid (t' := tk) (a := hp.objs.size + 1) (o := exo (hp.objs.size + 1) C none) (h' := madeH hp rest C) kk hsz (exo_ok hget)
  have hl : rest.length ≤ sizeLine := by
    rcases hk with ⟨e, _⟩ | ⟨e, _⟩ <;> (rw [e, sizeLine_eq]; simp)
  have hq : spInitE C f [.ref (hp.objs.size + 1), v] (upd H (hp.objs.size + 1) (exo (hp.objs.size + 1) C none)) (fun x H' => x = .non ∧ Q (.ref (hp.objs.size + 1)) H') (fun _ _ _ => False) := by
    refine ⟨_, v, rfl, upd_same, fun dx n ne => ⟨rfl, ?_⟩⟩
    have nd : H dx = none := by rw [upd_ne ne] at n; exact n
    refine h _ dx _ hn nd ne (fun b o e => ?_) upd_same (by rw [upd_ne ne, upd_same])
    rw [upd_ne (ne_of_none e hn), upd_ne (ne_of_none e nd), upd_ne (ne_of_none e hn)]
    exact e
  have hbt : ∀ s' : Shared, BindsTo s' fdI ⟨.ref (hp.objs.size + 1) :: rest, kw⟩ ((["self", f] : List Str).zip [.ref (hp.objs.size + 1), u]) := fun s' => by
    rcases hk with ⟨e1, e2⟩ | ⟨e1, e2⟩ <;> subst e1 e2
    · exact hb1 s' _ _
    · exact hb2 s' _ _
  refine wpAny_call (call_ownK PySem.F.excBase_Exception (fun Y => PySem.W.excTail_contains Y bm hbm) (I.kIn _ _ hC) hl (PySem.W.looks_findIn I.kIn iC) (fun self => PySem.W.bind_fn I.kIn self tI)
    (codeAny_mono (F1.run _ X.stack _ _ ⟨Value.ref (hp.objs.size + 1) :: rest, kw⟩ [Value.ref (hp.objs.size + 1), u] [V.ref (hp.objs.size + 1), v] _ (fun _ _ _ => False) (hr.make C rest kw) (I2.env0.make C rest kw) (hbt _) (.cons rfl (.cons r .nil)) hq) fun r s' hq' => ?_))
  cases r with
  | error e => exact hq'.elim
  | ok fl =>
    cases fl with
    | ret u =>
      obtain ⟨v', H', I3, rv, ev, q3⟩ := I2.after hq'
      subst ev
      exact ⟨rv, ⟨V.ref (hp.objs.size + 1), H', I3, rfl, q3⟩⟩
    | next => exact False.elim hq'
    | brk => exact False.elim hq'
    | cont => exact False.elim hq'
/-- C(e) -/
def tExE (C : Addr) (f : Str) (ta : TE) : TE := fun σ H Q => ta σ H fun v H1 => MadeE C f v H1 Q
theorem pe_exE {x : Str} {e : Expr} {te : TE} {p pos : Pos} (Z : ExK X.prog X.w X.K X.mg X.base C f k) (hr : Room (k + 1) X.A) (hm : X.mg x = some (.ref C)) (he : PE X e te) (hg : Gl X x := by rfl) (hdb : (x == ("__debug__" : Str)) = false := by decide)
    (hs : starEach [e] X.env = (false, eval e X.env) :: starEach [] X.env := by rfl) (hpl : (backTo pos (starEach [] X.env)).any (·.1) = false := by rfl) :
    PE X (.Call (.Name x p) [e] [] pos) (tExE C f te) := by
  refine ⟨fun pins s σ H Q I h => ?_⟩
  refine wpAny_Call_Name_kw (ld_glob I hg hm ?_ hdb)
  refine PySem.W.callWith_K (h₀ := X.base) I.ok.mod.kin Z.T.kC ?_ hs hpl
  rw [hs]
  show wpAny _ _ (spliced ((false, eval e X.env) :: backTo pos (starEach [] X.env))) _ _ s
  refine Calls.spliced_cons (thn (he.run pins s σ H _ I h) fun u s1 ⟨v, H1, I1, r1, q1⟩ => ?_)
  refine Calls.spliced_nil ⟨I1.kIn, ?_⟩
  show wpAny _ _ (call (.ref C) [u] []) _ _ _
  exact run_exE Z hr I1 r1 (.inl ⟨rfl, rfl⟩) q1
/-- C(f=e) -/
theorem pe_exK {x : Str} {e : Expr} {te : TE} {p pos kp : Pos} (Z : ExK X.prog X.w X.K X.mg X.base C f k) (hr : Room (k + 1) X.A) (hm : X.mg x = some (.ref C)) (he : PE X e te) (hg : Gl X x := by rfl) (hdb : (x == ("__debug__" : Str)) = false := by decide) :
    PE X (.Call (.Name x p) [] [⟨some f, e, kp⟩] pos) (tExE C f te) := by
  refine ⟨fun pins s σ H Q I h => ?_⟩
  refine wpAny_Call_Name_kw (ld_glob I hg hm ?_ hdb)
  refine PySem.W.callWith_KW0 (h₀ := X.base) I.ok.mod.kin Z.T.kC rfl ?_
  show wpAny _ _ (evalAll ((do let v ← eval e X.env; standAt pos; pure v) :: [])) _ _ s
  refine wpAny_evalAll_cons (wpAny_bind (thn (he.run pins s σ H _ I h) fun u s1 ⟨v, H1, I1, r1, q1⟩ => wpAny_bind (wpAny_standAt (wpAny_pure ?_))))
  refine wpAny_evalAll_nil ⟨I1.kIn, ?_⟩
  show wpAny _ _ (call (.ref C) [] [(f, u)]) _ _ _
  exact run_exE Z hr I1 r1 (.inr ⟨rfl, rfl⟩) q1
/-- e.f of such an exception -/
def tAtE (K : PySem.W.Frag) (f : Str) (te : TE) : TE := fun σ H Q => te σ H fun x H1 => ∃ (a C d : Addr) (fs : List (Str × V)) (v : V), x = .ref a ∧ OexE K C ∧ PySem.W.findIn K (.ref C) f = some none ∧ H1 a = some (exo a C (some d)) ∧ H1 d = some (exd d fs) ∧ fs.lookup f = some v ∧ Q v H1
theorem inst_at {a C d : Addr} {fs : List (Str × V)} (I : Inv X pins σ H s) (ha : H a = some (exo a C (some d))) (hd : H d = some (exd d fs)) :
    ∃ (ox od : Obj) (mA : Str → Option Value), PySem.W.InstAt s.heap a ox C (some od) ∧ (∀ name, PySem.W.lookIn name od = some (mA name)) ∧ ∀ g, RelO (fs.lookup g) (mA g) := by
  obtain ⟨t1, ho⟩ := exo_at I.hok ha
  obtain ⟨mA, hns, rel⟩ := exd_at I.hok hd
  obtain ⟨od, hod, hl⟩ := lookIn_ns hns
  exact ⟨_, od, mA, ⟨ho, rfl, rfl, hod⟩, hl, rel⟩
theorem pe_atE {e : Expr} {te : TE} {pos : Pos} (he : PE X e te) (hb : attributeBase e f X.env (eval e X.env) = eval e X.env := by rfl) : PE X (.Attribute e f pos) (tAtE X.K f te) := by
  refine ⟨fun pins s σ H Q I h => ?_⟩
  refine attr_of hb (thn (he.run pins s σ H _ I h) fun u s1 hh => ?_)
  obtain ⟨x, H1, I1, rx, a, C, d, fs, v, ex, T, hno, ha, hd, hl, q⟩ := hh
  subst ex
  obtain rfl : u = Value.ref a := rx
  obtain ⟨ox, od, mA, J, hlk, rel⟩ := inst_at I1 ha hd
  obtain ⟨u, hu, ru⟩ := RelO.some_of (v := v) (o := mA f) (by rw [← hl]; exact rel f)
  exact PySem.HandSPX.exc_get I1.kIn J T.ga T.gg T.exC (PySem.W.findObj_own T.hdC hno rfl (by rw [hlk, hu])) (handed_of ru) ⟨v, H1, I1.tok _, ru, q⟩
/-- isinstance(e, c) -/
def rIsX (K : PySem.W.Frag) : List V → Hp → VK → Prop := fun xs H Q => ∃ (a D : Addr) (dd : Option Addr) (c : V) (cv : Value) (b : Bool), xs = [.ref a, c] ∧ ClsV c cv ∧ OexE K D ∧ H a = some (exo a D dd) ∧ (∀ d, dd = some d → ∃ fs, H d = some (exd d fs)) ∧ PySem.W.kitOne K (.ref D) cv = some b ∧ Q (.bl b) H
theorem call_isX : CallR X (.builtin "isinstance") (rIsX X.K) := by
  intro pins s σ H xs us Q I r h
  obtain ⟨a, D, dd, c, cv, b, rfl, k, T, ha, hd, e, q⟩ := h
  obtain ⟨u1, u2, rfl, r1, r2⟩ := vals2 r
  have e2 := k.eq r2
  subst e2
  cases (show u1 = Value.ref a from r1)
  have hcl : (PySem.W.clsIn X.K D).isSome = true := by
    obtain ⟨cd, hc, _⟩ := PySem.W.any_some T.hdC
    rw [hc] <;> rfl
  have hne : Value.ref a ≠ .builtin "__main__.__loader__#opaque" := fun z => nomatch z
  cases dd with
  | none =>
    obtain ⟨t1, ho⟩ := exo_at I.hok ha
    exact PySem.W.kia_one (PySem.W.kitx_exc (od := none) hcl T.ga T.gg T.exC T.ca T.cn T.ct T.cm) I.kIn ⟨ho, rfl, rfl, trivial⟩ e hne fun tk => ⟨.bl b, H, I.tok tk, rfl, q⟩
  | some d =>
    obtain ⟨fs, hd⟩ := hd d rfl
    obtain ⟨ox, od, mA, J, _, _⟩ := inst_at I ha hd
    exact PySem.W.kia_one (PySem.W.kitx_exc hcl T.ga T.gg T.exC T.ca T.cn T.ct T.cm) I.kIn J e hne fun tk => ⟨.bl b, H, I.tok tk, rfl, q⟩
end
/-- an own class over Exception without an __init__ of its own -/
structure Ex0 (K : PySem.W.Frag) (C : Addr) : Prop where
  T : OexE K C
  ini : PySem.W.findIn K (.ref C) "__init__" = some (some (.builtin "Exception.__init__"))
section
variable {X : Cx} {pins : List (Addr × Obj)} {σ : St} {H : Hp} {s : Shared} {C : Addr}
theorem run_ex0 {Q : Value → Shared → Prop} (Z : Ex0 X.K C) (I : Inv X pins σ H s)
    (h : ∀ (h' : Heap) (t1 : Addr), (∀ b o, s.heap.get? b = some o → h'.get? b = some o) → h'.get? (s.heap.objs.size + 1) = some ({ cls := .ref C, dict := none, data := .fields #[.ref t1, .none, .none, .none, .bool false, .none] } : Obj) → Q (.ref (s.heap.objs.size + 1)) { s with heap := h' }) :
    wpAny (model X.prog X.w) X.A (call (.ref C) []) Q X.xe s := by
  obtain ⟨nm, q, N, bs, bm, sn, sub, ab, col, dd, k0, k1, k2, k3, k5, hC, hbm⟩ := Z.T.cls
  obtain ⟨hp, g, dr, tk, os⟩ := s
  exact PySem.W.call_B PySem.F.excBase_Exception (fun Y => PySem.W.excTail_contains Y bm hbm) (I.kIn _ _ hC) (PySem.W.looks_findIn I.kIn Z.ini) (by simp) fun h' k e _ => h h' _ k e
/-- C() -/
theorem pe_ex0 {x : Str} {p pos : Pos} (Z : Ex0 X.K C) (hm : X.mg x = some (.ref C)) (hg : Gl X x := by rfl) (hdb : (x == ("__debug__" : Str)) = false := by decide) :
    PE X (.Call (.Name x p) [] [] pos) (fun _ H Q => ∀ a, H a = none → Q (.ref a) (upd H a (exo a C none))) := by
  refine ⟨fun pins s σ H Q I h => ?_⟩
  refine wpAny_Call_Name_kw (ld_glob I hg hm ?_ hdb)
  refine PySem.W.callWith_K0 (K := X.K) I.kIn Z.T.kC ?_
  have hn : H (s.heap.objs.size + 1) = none := I.hok.fresh (Nat.le_succ _)
  exact run_ex0 Z I fun h' t1 k e => ⟨.ref (s.heap.objs.size + 1), _, I.laid (t' := s.toks) (a := s.heap.objs.size + 1) k (Nat.le_succ _) (exo_ok e), rfl, h _ hn⟩
/-- raise C(): what makes it -/
theorem pmk_ex0 {x : Str} {p pos : Pos} (Z : Ex0 X.K C) (hm : X.mg x = some (.ref C)) (hg : Gl X x := by rfl) (hdb : (x == ("__debug__" : Str)) = false := by decide) :
    PMk X (.Call (.Name x p) [] [] pos) (fun _ H Q => Q (.ref C) none H) := by
  intro pins s σ H Q I h
  refine wpAny_Call_Name_kw (ld_glob I hg hm ?_ hdb)
  refine PySem.W.callWith_K0 (K := X.K) I.kIn Z.T.kC ?_
  have hn : H (s.heap.objs.size + 1) = none := I.hok.fresh (Nat.le_succ _)
  refine run_ex0 Z I fun h' t1 k e => ?_
  have ne : s.heap.get? (s.heap.objs.size + 1) = none := by
    cases q : s.heap.get? (s.heap.objs.size + 1) with
    | none => rfl
    | some o => exact absurd (Nat.lt_of_succ_lt (Heap.lt_size q)) (Nat.lt_irrefl _)
  exact ⟨s.heap.objs.size + 1, _, _, s, H, .ref C, none, rfl, I, k, ne, e, ⟨rfl, rfl⟩, rfl, rfl, hn, rfl, I.bare, raises_own Z.T.exC Z.T.tyC, h⟩
/-- isinstance(e, c), e pinned -/
def rIsP (K : PySem.W.Frag) (a D : Addr) : List V → Hp → VK → Prop := fun xs H Q => ∃ (c : V) (cv : Value) (b : Bool), xs = [.ref a, c] ∧ ClsV c cv ∧ PySem.W.kitOne K (.ref D) cv = some b ∧ Q (.bl b) H
theorem call_isP {p : Addr × Obj} {D : Addr} (T : OexE X.K D) (hp : p ∈ X.pn) (hz : Zc (.ref D) none p.2) (hf : ∃ vs, p.2.data = .fields vs) : CallR X (.builtin "isinstance") (rIsP X.K p.1 D) := by
  intro pins s σ H xs us Q I r h
  obtain ⟨c, cv, b, rfl, k, e, q⟩ := h
  obtain ⟨u1, u2, rfl, r1, r2⟩ := vals2 r
  have e2 := k.eq r2
  subst e2
  cases (show u1 = Value.ref p.1 from r1)
  have hcl : (PySem.W.clsIn X.K D).isSome = true := by
    obtain ⟨cd, hc, _⟩ := PySem.W.any_some T.hdC
    rw [hc] <;> rfl
  obtain ⟨hget, _⟩ := I.pin p (List.mem_append_left _ hp)
  obtain ⟨vs, hv⟩ := hf
  have J : PySem.W.InstAt s.heap p.1 p.2 D none := by
    refine ⟨hget, hz.1, ?_, ?_⟩
    · unfold PySem.W.notCls
      rw [hv] <;> rfl
    · rw [hz.2]; trivial
  exact PySem.W.kia_one (PySem.W.kitx_exc (od := none) hcl T.ga T.gg T.exC T.ca T.cn T.ct T.cm) I.kIn J e (fun z => nomatch z) fun tk => ⟨.bl b, H, I.tok tk, rfl, q⟩
end
end Vx
end L2

set_option Elab.async false
set_option linter.all false
set_option maxRecDepth 100000
set_option maxHeartbeats 4000000
namespace L2
namespace Vx
open PySem PySem.Spec PyProof.Rows
/-! ### a def that is called where no repr is under way (so that repr may be called in it) -/
structure FnG (P : Program) (w : World) (K : PySem.W.Frag) (mg : Str → Option Value) (base : Heap) (k : Nat) (f : Addr) (fd : FuncData) (ps : List Str) (sp : Sp) : Prop where
  run : ∀ (A : Around) (outer : List Env) (s : Shared) (H : Hp) (args : Args) (us : List Value) (vs : List V) (Q : VK) (E : XK), Room k A → A.guards = some [] → Env0 P w K mg base A outer s H → BindsTo s fd args (ps.zip us) → Vals vs us → sp vs H Q E →
    codeAny (model P w) A (.call (.ref f) args) (CR CX0 outer P w H s Q E) s
section
variable {P : Program} {w : World} {K : PySem.W.Frag} {mg : Str → Option Value} {base : Heap}
theorem FunG {x qual : Str} {st : Stmt} {f : Addr} {fd : FuncData} {N ps : List Str} {k : Nat} {sp : Sp} (F : Fun K x qual st f fd) (S : FnScope N ps (defScope st)) (len : ∀ vs H Q E, sp vs H Q E → vs.length = ps.length)
    (hbody : ∀ (cdv : Value) (A : Around) (outer : List Env) (s : Shared) (H : Hp) (vs : List V) (Q : VK) (E : XK), Room k (A.deeper (envOfC qual (defScope st) s.heap.objs.size f cdv)) → A.guards = some [] → sp vs H Q E →
      ∃ t, PSs (cxOf CX0 P w K mg base N qual (defScope st) f cdv A outer s H E).nox (defBody st) t ∧ t { nx := fun _ H' => Q .non H', rt := Q } (start N vs) H) : FnG P w K mg base (k + 1) f fd ps sp := by
  obtain ⟨oc, od, kV, doc, pm, an, cdv, ct, osl, rfl, lk, hcd⟩ := F.ex
  refine ⟨fun A outer s H args us vs Q E hr hgd e0 hb r hsp => ?_⟩
  obtain ⟨t, ht0, hq⟩ := hbody cdv A outer s H vs Q E (hr.deeper _) hgd hsp
  have ht := ht0.nox
  have hl := len _ _ _ _ hsp
  have KX : K.In s.heap := e0.mod.kin.keeps fun b o e => (e0.bs b o e).1
  have lim : s.heap.NoLimit := e0.mod.nolimit.keeps fun b o e => (e0.bs b o e).1
  have hkind : ∀ y ∈ ps.zip us, (defScope st).names.lookup y.1 = some .local ∨ ((defScope st).names.lookup y.1 = some .cell ∧ ((cellsFrom (s.heap.objs.size + 1) (defScope st).names []).lookup y.1).isSome = true) := by
    rintro ⟨n, v⟩ hy
    rcases S.par n (List.of_mem_zip hy).1 with q | q
    · exact .inl q
    · exact .inr ⟨q, PySem.W.cellsFrom_some _ _ _ (.inl q)⟩
  refine codeAny_call_function hr.depth (KX _ _ lk) rfl S.co S.gen rfl (PySem.W.codeRec_of KX hcd) (hb _ _ _ _ ?_)
  refine wpAny_newFunctionEnv_cells S.kind hkind fun env he s1 x => ?_
  subst he
  refine ⟨lim.keeps x.toInCall.keep, codeAny_func ?_⟩
  have I := inv_start (CX := CX0) (E := E) S hr.hd e0 hl r x
  refine wpAny_mono (ht.run [] s1 (start N vs) H _ I hq) (fun fl s' hs => ?_) fun e s' hs => hs
  cases fl with
  | ret u =>
    obtain ⟨v, σ', H', J, rv, q⟩ := hs
    exact ⟨v, H', J.os, J.bare, J.base, J.hok, rv, q⟩
  | next =>
    obtain ⟨σ', H', J, q⟩ := hs
    exact ⟨V.non, H', J.os, J.bare, J.base, J.hok, rfl, q⟩
  | brk => obtain ⟨_, _, _, q⟩ := hs; exact q.elim
  | cont => obtain ⟨_, _, _, q⟩ := hs; exact q.elim
theorem law_callG {mb : Str → Option Value} {k : Nat} {fa a : Addr} {fd : FuncData} {x : Str} {sp : Sp} {s₁ : Shared} {vs : List Value} {ns : List Int}
    (KX : K.In s₁.heap) (hns : s₁.heap.Ns mainGlobals mg) (hb : s₁.heap.Ns builtinsNs mb) (hbb : ∀ x : Str, x ≠ "__name__" → mb x = bootBuiltins x) (hlim : s₁.heap.NoLimit) (hg : s₁.gens = #[])
    (ha : s₁.heap.get? a = some { cls := .type "list", data := .seq vs.toArray }) (hi : IntsAre vs ns) (hl : ns.length ≤ sizeLine) (hr : Room k callerA)
    (F : ∀ base : Heap, K.In base → base.Ns mainGlobals mg → FnG P w K mg base k fa fd [x] sp) (hbind : ∀ (s : Shared) (u : Value), BindsTo s fd ⟨[u], []⟩ [(x, u)])
    (hsp : ∀ H : Hp, Only H → SqL K H a (ns.map V.int) → sp [.ref a] H (fun v _ => v = .bl true) fun _ _ _ => False) :
    codeAny (model P w) callerA (.call (.ref fa) ⟨[.ref a], []⟩) (fun r s' => r = .ok (.ret (.bool true)) ∧ OldK s₁.heap s'.heap ∧ s'.os = s₁.os ∧ AllBare s'.gens) s₁ := by
  have rv := vals_ints hi
  have lenV := hi.length
  have core : ∀ H : Hp, Only H → SqL K H a (ns.map V.int) → HOk P w H s₁.heap → (∀ b, H b ≠ none → b = a) → (H a ≠ none → K.lookup a = none) →
      codeAny (model P w) callerA (.call (.ref fa) ⟨[.ref a], []⟩) (fun r s' => r = .ok (.ret (.bool true)) ∧ OldK s₁.heap s'.heap ∧ s'.os = s₁.os ∧ AllBare s'.gens) s₁ := by
    intro H hO hS hok hA hK
    have only : ∀ {b : Addr} {u : HO}, H b = some u → b = a := fun {b u} q => hA b (by rw [q]; exact fun z => nomatch z)
    have nsK : ∀ {b : Addr} {m : Str → Option Value}, s₁.heap.Ns b m → (hidT s₁.heap H).Ns b m := by
      rintro b m ⟨o, es, ep, e, d, r⟩
      refine ⟨o, es, ep, hidT_get e ?_, d, r⟩
      cases q : H b with
      | none => rfl
      | some u =>
        obtain rfl := only q
        rw [ha] at e
        cases e
        exact nomatch (show Data.seq vs.toArray _ = Data.dict es ep from d)
    have hKb : K.In (hidT s₁.heap H) := by
      intro b o e
      refine hidT_get (KX b o e) ?_
      cases q : H b with
      | none => rfl
      | some u =>
        obtain rfl := only q
        rw [hK (by rw [q]; exact fun z => nomatch z)] at e
        cases e
    have hM : Mod K mg (hidT s₁.heap H) := ⟨hKb, nsK hns, ⟨mb, nsK hb, hbb⟩, let ⟨mc, h1, h2⟩ := hlim; ⟨mc, nsK h1, h2⟩⟩
    have e0 : Env0 P w K mg (hidT s₁.heap H) callerA [] s₁ H :=
      ⟨rfl, hM, fun b o e => of_hidT e, Nat.le_of_eq (hidT_size _ _), trivial, fun b hb => absurd (show b ∈ ([] : List Addr) from hb) (by simp), hok, .of_eq hg⟩
    refine codeAny_mono ((F _ hKb (nsK hns)).run callerA [] s₁ H ⟨[.ref a], []⟩ [.ref a] [.ref a] _ _ hr rfl e0 (hbind s₁ (.ref a)) (.cons rfl .nil) (hsp H hO hS)) fun r s' h => ?_
    cases r with
    | error e => exact (show False from h).elim
    | ok fl =>
      cases fl with
      | next => exact False.elim h
      | brk => exact False.elim h
      | cont => exact False.elim h
      | ret u =>
        obtain ⟨v, H', os, bare, un, hok', r', q⟩ := h
        obtain rfl : v = .bl true := q
        obtain rfl : u = Value.bool true := r'
        refine ⟨rfl, OldK.of_keep fun b o e => ?_, os, bare⟩
        cases q : H b with
        | none => exact un.keep b o e q (fun z => absurd (show b ∈ ([] : List Addr) from z) (by simp)) (by simp)
        | some u =>
          rcases hO b with z | ⟨ob, xs, z⟩
          · rw [q] at z; cases z
          · obtain ⟨e1, _⟩ := hok b _ z
            obtain ⟨e2, _⟩ := hok' b _ (un.frzs b ob _ z)
            rw [e] at e1
            cases e1
            exact e2
  cases hk : K.lookup a with
  | some o =>
    have e := KX a o hk
    rw [ha] at e
    cases e
    exact core (fun _ => none) (fun _ => .inl rfl) (.inr ⟨_, vs.toArray, _, hk, rfl, rfl, rfl, by rw [List.size_toArray, lenV]; exact hl, by simpa using rv⟩) (fun b u z => nomatch (show (none : Option HO) = some u from z)) (fun b z => absurd rfl z) fun z => absurd rfl z
  | none =>
    have at_a : (fun b => if b = a then some (HO.frz { cls := .type "list", data := .seq vs.toArray } (.lst (ns.map V.int))) else none) a = some (.frz { cls := .type "list", data := .seq vs.toArray } (.lst (ns.map V.int))) := if_pos rfl
    refine core (fun b => if b = a then some (.frz { cls := .type "list", data := .seq vs.toArray } (.lst (ns.map V.int))) else none) (fun b => ?_) (.inl (.inr ⟨_, at_a⟩)) (fun b u z => ?_) (fun b z => ?_) fun _ => hk
    · by_cases hb : b = a
      · exact .inr ⟨_, _, if_pos hb⟩
      · exact .inl (if_neg hb)
    · by_cases hb : b = a
      · cases (if_pos hb).symm.trans z
        subst hb
        exact ⟨ha, by rw [List.length_map]; exact hl, vs, _, rv, ha⟩
      · cases (if_neg hb).symm.trans z
    · by_cases hb : b = a
      · exact hb
      · exact absurd (if_neg hb) z
end
theorem walk_ofG {l : PySem.W.OpenLaw} {n k : Nat} {q : Program} {loose : List Str} {XP : (Str → Option Value) → Heap → Prop} {YP : World → Heap → Prop} {d : DefRec} {K : Params → PySem.W.Frag} {sp : World → Sp} {x : Str}
    (hn : l.most = some n) (hn2 : n ≤ sizeLine) (hdf : d.params.defaults = []) (hr : Room k callerA) (hY : ∀ (w : World) (h : Heap), YP w h → (K w.params).In h)
    (F : ∀ (w : World) (mg : Str → Option Value) (fa : Addr) (h : Heap), (K w.params).In h → h.Ns mainGlobals mg → mg d.name = some (.ref fa) →
      ∃ fd : FuncData, (∀ (s : Shared) (u : Value), BindsTo s fd ⟨[u], []⟩ [(x, u)]) ∧ ∀ base : Heap, (K w.params).In base → base.Ns mainGlobals mg → FnG l.prog w (K w.params) mg base k fa fd [x] (sp w))
    (hsp : ∀ (w : World) (H : Hp) (a : Addr) (ns : List Int), ns.length ≤ n → Only H → SqL (K w.params) H a (ns.map V.int) → sp w [.ref a] H (fun v _ => v = .bl true) fun _ _ _ => False) :
    PySem.W.WalkO q loose XP YP l.row.toRowW d [] (fun f vs => PySem.call f vs) := by
  refine Att.attach_call hn hdf fun w s₀ s₁ mg mb fa o pm cd doc a vs ns G Y ho hd hcd hmg hobj hints hlen hg => ?_
  have KX := hY w _ Y
  obtain ⟨fd, hb, hF⟩ := F w mg fa _ KX G.T.g hmg
  exact law_callG KX G.T.g G.T.b G.T.builtins G.T.nolimit hg hobj hints (Nat.le_trans hlen hn2) hr hF hb (fun H hO hS => hsp w H a ns hlen hO hS)
end Vx
end L2

set_option Elab.async false
set_option linter.all false
set_option maxRecDepth 100000
set_option maxHeartbeats 4000000
/-! ### values that can be shown: repr of any of them, whatever stands in sys.modules' place -/
namespace PySem
namespace Vr
section
mutual
inductive RdX (h : Heap) : Value → PyData → Prop
  | leaf {v d} (r : Reads h v d []) : RdX h v d
  | list {a o vs n xs} : h.get? a = some o → o.cls = .type "list" → o.data = .seq vs n → RdXAll h vs.toList xs → RdX h (.ref a) (.list xs)
  | tuple {a o vs n xs} : h.get? a = some o → o.cls = .type "tuple" → o.data = .seq vs n → RdXAll h vs.toList xs → RdX h (.ref a) (.tuple xs)
  | dict {a o es n kvs} : h.get? a = some o → o.cls = .type "dict" → o.data = .dict es n → ReadsAll h (es.toList.map (·.key)) (kvs.map (·.1)) [] → ReadsAll h (es.toList.map (·.val)) (kvs.map (·.2)) [] → (a == sysModules) = false → RdX h (.ref a) (.dict kvs)
inductive RdXAll (h : Heap) : List Value → List PyData → Prop
  | nil : RdXAll h [] []
  | cons {v vs d ds} : RdX h v d → RdXAll h vs ds → RdXAll h (v :: vs) (d :: ds)
end
mutual
theorem RdX.reads {h : Heap} : ∀ {v : Value} {d : PyData}, RdX h v d → ∃ as, Reads h v d as
  | _, _, .leaf r => ⟨[], r⟩
  | _, _, .list h1 h2 h3 h4 => let ⟨as, r⟩ := RdXAll.reads h4; ⟨_, .list h1 h2 h3 r⟩
  | _, _, .tuple h1 h2 h3 h4 => let ⟨as, r⟩ := RdXAll.reads h4; ⟨_, .tuple h1 h2 h3 r⟩
  | _, _, .dict h1 h2 h3 h4 h5 _ => ⟨_, .dict h1 h2 h3 h4 h5⟩
theorem RdXAll.reads {h : Heap} : ∀ {vs : List Value} {ds : List PyData}, RdXAll h vs ds → ∃ as, ReadsAll h vs ds as
  | _, _, .nil => ⟨[], .nil⟩
  | _, _, .cons r rs => let ⟨as, q⟩ := RdX.reads r; let ⟨bs, qs⟩ := RdXAll.reads rs; ⟨_, .cons q qs⟩
end
variable {prog : Program} {w : World} {h₀ : Heap}
theorem dict_parts {a : Addr} {o : Obj} {es : Array DictEntry} {n : Nat} {kvs : List (PyData × PyData)} (h1 : h₀.get? a = some o) (h2 : o.cls = .type "dict") (h3 : o.data = .dict es n) (h4 : ReadsAll h₀ (es.toList.map (·.key)) (kvs.map (·.1)) [])
    (h5 : ReadsAll h₀ (es.toList.map (·.val)) (kvs.map (·.2)) []) (hs : PyData.showableKv kvs = true) (hz : (dictText (PyData.shownKv kvs)).length ≤ sizeLine) :
    ∃ bs, a ∉ bs ∧ ReadAtMost h₀ (PyData.depthKv kvs) bs ∧ ReprEntriesK prog w bs h₀ (PyData.depthKv kvs) es.toList (PyData.shownKv kvs) := by
  obtain ⟨s1, s2⟩ := PyData.showableKv_split kvs hs
  have no : sysModules ∉ ([] : List Addr) := fun z => nomatch z
  obtain ⟨b1, g1, k1⟩ := ReprAllK.of_readsAll (prog := prog) (w := w) h4 s1 (fun _ => no) fun t ht => by
    obtain ⟨p, hp, hl⟩ := PyData.shownKv_key_le kvs t ht
    exact Nat.le_trans hl (Nat.le_trans (dictText_mem_le hp) hz)
  obtain ⟨b2, g2, k2⟩ := ReprAllK.of_readsAll (prog := prog) (w := w) h5 s2 (fun _ => no) fun t ht => by
    obtain ⟨p, hp, hl⟩ := PyData.shownKv_val_le kvs t ht
    exact Nat.le_trans hl (Nat.le_trans (dictText_mem_le hp) hz)
  have g : ReadAtMost h₀ (PyData.depthKv kvs) (b1 ++ b2) := (g1.mono (PyData.depthAll_keys_le kvs)).append (g2.mono (PyData.depthAll_vals_le kvs))
  refine ⟨b1 ++ b2, not_mem_of_deeper (.dict h1 h2 h3 h4 h5) (by simp only [PyData.depth]; omega) g, g, ?_⟩
  rw [PyData.shownKv_eq]
  exact ReprEntriesK.of_two es.toList _ _ (k1.more_le (fun b hb => List.mem_append_left _ hb) (PyData.depthAll_keys_le kvs)) (k2.more_le (fun b hb => List.mem_append_right _ hb) (PyData.depthAll_vals_le kvs))
mutual
theorem reprK_of : ∀ {v : Value} {d : PyData}, RdX h₀ v d → d.showable = true → d.shown.length ≤ sizeLine → ∃ bs, ReadAtMost h₀ d.depth bs ∧ ReprK prog w bs h₀ d.depth v d.shown
  | _, _, .leaf r, hs, hz => ReprK.of_reads r hs (fun _ z => nomatch z) hz
  | _, _, .list (a := a) (vs := vs) (xs := xs) h1 h2 h3 h4, hs, hz => by
    simp only [PyData.shown] at hz
    obtain ⟨bs, g, k⟩ := reprAllK_of h4 (by simpa [PyData.showable] using hs) fun t ht => Nat.le_trans (listText_mem_le ht) hz
    obtain ⟨as, r⟩ := RdX.reads (.list h1 h2 h3 h4)
    refine ⟨a :: bs, ReadAtMost.cons r (by simp only [PyData.depth]; omega) g, ?_⟩
    have na : a ∉ bs := not_mem_of_deeper r (by simp only [PyData.depth]; omega) g
    simp only [PyData.depth, PyData.shown]
    obtain ⟨l⟩ := vs
    cases l with
    | nil =>
      cases (show RdXAll h₀ [] xs from h4)
      simp only [PyData.shownAll, listText_nil]
      exact ReprK.listEmpty h1 h2 h3
    | cons x l => exact ReprK.list h1 h2 h3 na (by simpa using k.length_eq) fun i y e => k.item i y (by simpa using e)
  | _, _, .tuple (a := a) (xs := xs) h1 h2 h3 h4, hs, hz => by
    simp only [PyData.shown] at hz
    obtain ⟨bs, g, k⟩ := reprAllK_of h4 (by simpa [PyData.showable] using hs) fun t ht => Nat.le_trans (tupleText_mem_le ht) hz
    obtain ⟨as, r⟩ := RdX.reads (.tuple h1 h2 h3 h4)
    refine ⟨a :: bs, ReadAtMost.cons r (by simp only [PyData.depth]; omega) g, ?_⟩
    simp only [PyData.depth, PyData.shown]
    exact ReprK.tuple h1 h2 h3 (not_mem_of_deeper r (by simp only [PyData.depth]; omega) g) k
  | _, _, .dict (a := a) (kvs := kvs) h1 h2 h3 h4 h5 h6, hs, hz => by
    simp only [PyData.shown] at hz
    obtain ⟨bs, na, g, k⟩ := dict_parts (prog := prog) (w := w) h1 h2 h3 h4 h5 (by simpa [PyData.showable] using hs) hz
    refine ⟨a :: bs, ReadAtMost.cons (.dict h1 h2 h3 h4 h5) (by simp only [PyData.depth]; omega) g, ?_⟩
    simp only [PyData.depth, PyData.shown]
    exact ReprK.dict h1 h2 h3 h6 na k
theorem reprAllK_of : ∀ {vs : List Value} {ds : List PyData}, RdXAll h₀ vs ds → PyData.showableAll ds = true → (∀ t ∈ PyData.shownAll ds, t.length ≤ sizeLine) →
    ∃ bs, ReadAtMost h₀ (PyData.depthAll ds) bs ∧ ReprAllK prog w bs h₀ (PyData.depthAll ds) vs (PyData.shownAll ds)
  | _, _, .nil, _, _ => ⟨[], (fun _ h => nomatch h), by simp only [PyData.shownAll]; exact .nil⟩
  | _, _, .cons (d := d) (ds := ds) r rs, hs, hz => by
    have hs' : d.showable = true ∧ PyData.showableAll ds = true := by simpa [PyData.showableAll] using hs
    obtain ⟨b1, g1, k1⟩ := reprK_of r hs'.1 (hz _ (by simp only [PyData.shownAll]; exact List.mem_cons_self ..))
    obtain ⟨b2, g2, k2⟩ := reprAllK_of rs hs'.2 (fun t ht => hz t (by simp only [PyData.shownAll]; exact List.mem_cons_of_mem _ ht))
    refine ⟨b1 ++ b2, fun b hm => ?_, ?_⟩
    · simp only [PyData.depthAll]
      rcases List.mem_append.mp hm with hm | hm
      · obtain ⟨d', as', r', hd'⟩ := g1 b hm
        exact ⟨d', as', r', Nat.le_trans hd' (Nat.le_max_left _ _)⟩
      · obtain ⟨d', as', r', hd'⟩ := g2 b hm
        exact ⟨d', as', r', Nat.le_trans hd' (Nat.le_max_right _ _)⟩
    · simp only [PyData.depthAll, PyData.shownAll]
      exact .cons ((k1.more fun b hb => List.mem_append_left _ hb).level_le (Nat.le_max_left _ _)) (k2.more_le (fun b hb => List.mem_append_right _ hb) (Nat.le_max_right _ _))
end
/-- repr(v) -/
theorem repr_call {s : Shared} {A : Around} {E : Value → Shared → Prop} {Q : Value → Shared → Prop} {v : Value} {d : PyData} (r : RdX s.heap v d) (hs : d.showable = true) (hz : d.shown.length ≤ sizeLine) (hg : A.guards = some []) (hu : A.units + (d.depth + 1) < cLine)
    (hQ : ∀ h' u tk, (∀ b o, s.heap.get? b = some o → h'.get? b = some o) → Q (.str d.shown u) { s with heap := h', toks := tk }) : wpAny (model prog w) A (call (.builtin "repr") [v]) Q E s := by
  have hu' : A.in1.units + d.depth < cLine := by
    show A.units + 1 + d.depth < cLine
    omega
  have keep : ∀ b o, s.heap.get? b = some o → s.heap.get? b = some o := fun _ _ e => e
  cases r with
  | leaf r =>
    cases r with
    | none => simp only [PyData.shown] at hQ; exact P.repr_of_none (hQ s.heap _ _ keep)
    | bool b => simp only [PyData.shown] at hQ; exact P.repr_of_bool (hQ s.heap _ _ keep)
    | int i t => simp only [PyData.shown] at hQ; exact P.repr_of_int (by simpa [PyData.showable] using hs) (hQ s.heap _ _ keep)
    | str x t => simp only [PyData.shown] at hQ hz; exact P.repr_of_str (hQ s.heap _ _ keep) hz
    | tuple h1 h2 h3 h4 => exact repr_of_reads' (.tuple h1 h2 h3 h4) hs (fun _ z => nomatch z) hg hu keep (fun h' u tk k => hQ h' u tk k) hz
  | list h1 h2 h3 h4 =>
    rename_i a o vs n xs
    obtain ⟨as, r⟩ := RdX.reads (.list h1 h2 h3 h4)
    simp only [PyData.shown] at hQ hz
    obtain ⟨bs, g, k⟩ := reprAllK_of (prog := prog) (w := w) h4 (by simpa [PyData.showable] using hs) fun t ht => Nat.le_trans (listText_mem_le ht) hz
    have na : a ∉ bs := not_mem_of_deeper r (by simp only [PyData.depth]; omega) g
    simp only [PyData.depth] at hu'
    refine call_repr_slot (T := "list") (idr := "list.__repr__") (by omega) ⟨o, h1, h2⟩ F.slot_list_repr.toG ?_
    obtain ⟨l⟩ := vs
    cases l with
    | nil =>
      cases (show RdXAll s.heap [] xs from h4)
      simp only [PyData.shownAll, listText_nil] at hQ
      exact call_list_repr_empty ⟨o, h1, h2⟩ h1 h3 ⟨_, _, rfl, hQ s.heap _ _ keep⟩
    | cons x l => exact call_list_reprK h1 h2 h3 na (by simpa using k.length_eq) (fun i y e => k.item i y (by simpa using e)) hg (fun b _ => Clear.nil b) hu' keep (fun h' u tk kk => ⟨_, _, rfl, hQ h' u tk kk⟩) hz
  | tuple h1 h2 h3 h4 =>
    rename_i a o vs n xs
    obtain ⟨as, r⟩ := RdX.reads (.tuple h1 h2 h3 h4)
    simp only [PyData.shown] at hQ hz
    obtain ⟨bs, g, k⟩ := reprAllK_of (prog := prog) (w := w) h4 (by simpa [PyData.showable] using hs) fun t ht => Nat.le_trans (tupleText_mem_le ht) hz
    have na : a ∉ bs := not_mem_of_deeper r (by simp only [PyData.depth]; omega) g
    simp only [PyData.depth] at hu'
    exact call_repr_slot (T := "tuple") (idr := "tuple.__repr__") (by omega) ⟨o, h1, h2⟩ F.slot_tuple_repr
      (call_tuple_reprK h1 h2 h3 na k hg (fun b _ => Clear.nil b) hu' keep (fun h' u tk kk => ⟨_, _, rfl, hQ h' u tk kk⟩) hz)
  | dict h1 h2 h3 h4 h5 h6 =>
    simp only [PyData.shown] at hQ hz
    obtain ⟨bs, na, g, k⟩ := dict_parts (prog := prog) (w := w) h1 h2 h3 h4 h5 (by simpa [PyData.showable] using hs) hz
    simp only [PyData.depth] at hu'
    exact call_repr_slot (T := "dict") (idr := "dict.__repr__") (by omega) ⟨_, h1, h2⟩ F.slot_dict_repr
      (call_dict_reprK h1 h2 h3 h6 na k hg (fun b _ => Clear.nil b) hu' keep (fun h' u tk kk => ⟨_, _, rfl, hQ h' u tk kk⟩) hz)
end
end Vr
end PySem

set_option Elab.async false
set_option linter.all false
set_option maxRecDepth 100000
set_option maxHeartbeats 4000000
namespace L2
namespace Vx
open PySem PySem.Spec PyProof.Rows PySem.Vr
/-! ### values as data: trees of lists and tuples over flat things; a dict holds flat things alone; S: where they may stand -/
def FlatD : V → PyData → Prop
  | .non, d => d = .none
  | .bl b, d => d = .bool b
  | .int i, d => d = .int i
  | .str x, d => d = .str x
  | _, _ => False
def kD : Key → PyData
  | .inl i => .int i
  | .inr x => .str x
inductive FlatP : List (Key × V) → List (PyData × PyData) → Prop
  | nil : FlatP [] []
  | cons {k : Key} {v : V} {d : PyData} {r : List (Key × V)} {ds : List (PyData × PyData)} : FlatD v d → FlatP r ds → FlatP ((k, v) :: r) ((kD k, d) :: ds)
section
mutual
inductive Dt (H : Hp) (S : Addr → Prop) : V → PyData → Prop
  | flat {v d} : FlatD v d → Dt H S v d
  | lst {a xs ds} : H a = some (.lst xs) → S a → DtAll H S xs ds → Dt H S (.ref a) (.list ds)
  | tup {a xs ds} : H a = some (.tup xs) → S a → DtAll H S xs ds → Dt H S (.ref a) (.tuple ds)
  | dct {a kvs ds} : H a = some (.dK kvs) → S a → FlatP kvs ds → Dt H S (.ref a) (.dict ds)
inductive DtAll (H : Hp) (S : Addr → Prop) : List V → List PyData → Prop
  | nil : DtAll H S [] []
  | cons {v vs d ds} : Dt H S v d → DtAll H S vs ds → DtAll H S (v :: vs) (d :: ds)
end
mutual
theorem Dt.mono {H H' : Hp} {S S' : Addr → Prop} (k : ∀ a o, S a → H a = some o → H' a = some o) (ks : ∀ a o, S a → H a = some o → S' a) : ∀ {v : V} {d : PyData}, Dt H S v d → Dt H' S' v d
  | _, _, .flat h => .flat h
  | _, _, .lst h s r => .lst (k _ _ s h) (ks _ _ s h) (DtAll.mono k ks r)
  | _, _, .tup h s r => .tup (k _ _ s h) (ks _ _ s h) (DtAll.mono k ks r)
  | _, _, .dct h s r => .dct (k _ _ s h) (ks _ _ s h) r
theorem DtAll.mono {H H' : Hp} {S S' : Addr → Prop} (k : ∀ a o, S a → H a = some o → H' a = some o) (ks : ∀ a o, S a → H a = some o → S' a) : ∀ {vs : List V} {ds : List PyData}, DtAll H S vs ds → DtAll H' S' vs ds
  | _, _, .nil => .nil
  | _, _, .cons h r => .cons (Dt.mono k ks h) (DtAll.mono k ks r)
end
theorem DtAll.append {H : Hp} {S : Addr → Prop} : ∀ {vs ws : List V} {ds es : List PyData}, DtAll H S vs ds → DtAll H S ws es → DtAll H S (vs ++ ws) (ds ++ es)
  | _, _, _, _, .nil, r => r
  | _, _, _, _, .cons h t, r => .cons h (DtAll.append t r)
theorem FlatD.reads {h : Heap} {v : V} {u : Value} {d : PyData} (f : FlatD v d) (r : RelV v u) : Reads h u d [] := by
  cases v with
  | non => cases (show d = .none from f); cases (show u = Value.none from r); exact .none
  | bl b => cases (show d = .bool b from f); cases (show u = Value.bool b from r); exact .bool b
  | int i => cases (show d = .int i from f); obtain ⟨t, rfl⟩ := (show ∃ t, u = Value.int i t from r); exact .int i t
  | str x => cases (show d = .str x from f); obtain ⟨t, rfl⟩ := (show ∃ t, u = Value.str x t from r); exact .str x t
  | byt b => exact (show False from f).elim
  | flt b => exact (show False from f).elim
  | ref b => exact (show False from f).elim
  | ty b => exact (show False from f).elim
theorem readsAll_cons0 {h : Heap} {v : Value} {vs : List Value} {d : PyData} {ds : List PyData} (a : Reads h v d []) (b : ReadsAll h vs ds []) : ReadsAll h (v :: vs) (d :: ds) [] := .cons (as := []) (bs := []) a b
theorem flatP_reads {P : Program} {w : World} {h : Heap} : ∀ {kvs : List (Key × V)} {ds : List (PyData × PyData)} {vs : List (Key × Value)} {es : List DictEntry}, FlatP kvs ds → KV kvs vs → Pairs (mixKind P w) es vs →
    ReadsAll h (es.map (·.key)) (ds.map (·.1)) [] ∧ ReadsAll h (es.map (·.val)) (ds.map (·.2)) []
  | _, _, _, _, .nil, .nil, .nil => ⟨.nil, .nil⟩
  | _, _, _, _, .cons (k := k) f fr, .cons ⟨ek, rv⟩ rr, .cons (e := e0) hk hv hp => by
    obtain ⟨i1, i2⟩ := flatP_reads fr rr hp
    refine ⟨readsAll_cons0 ?_ i1, readsAll_cons0 ?_ i2⟩
    · have hk' : keyIs k e0.key = true := by rw [show k = _ from ek]; exact hk
      rcases keyIs_shape hk' with ⟨i, t, rfl, e⟩ | ⟨x, t, rfl, e⟩
      · show Reads h e0.key (.int i) []
        rw [e]
        exact .int i t
      · show Reads h e0.key (.str x) []
        rw [e]
        exact .str x t
    · exact f.reads (show RelV _ e0.val by rw [hv]; exact rv)
end
section
variable {X : Cx} {pins : List (Addr × Obj)} {σ : L2.St} {H : Hp} {s : Shared} {S : Addr → Prop}
mutual
theorem Dt.rd (I : Inv X pins σ H s) : ∀ {v : V} {d : PyData}, Dt H S v d → ∀ {u : Value}, RelV v u → RdX s.heap u d
  | _, _, .flat f, u, r => .leaf (f.reads r)
  | _, _, .lst (a := a) (xs := xs) h _ q, u, r => by
    cases (show u = Value.ref a from r)
    obtain ⟨_, its, n, rv, e⟩ := (show ObjOk X.prog X.w H s.heap a (.lst xs) from I.hok a _ h)
    exact .list e rfl rfl (DtAll.rd I q rv)
  | _, _, .tup (a := a) (xs := xs) h _ q, u, r => by
    cases (show u = Value.ref a from r)
    obtain ⟨_, its, rv, o, e, c, n, dt⟩ := (show ObjOk X.prog X.w H s.heap a (.tup xs) from I.hok a _ h)
    exact .tuple e c dt (DtAll.rd I q rv)
  | _, _, .dct (a := a) (kvs := kvs) h _ q, u, r => by
    cases (show u = Value.ref a from r)
    obtain ⟨_, hm, vs, rel, o, es, ep, e, hx, hd, _, hp, _⟩ := (show ObjOk X.prog X.w H s.heap a (.dK kvs) from I.hok a _ h)
    obtain ⟨i1, i2⟩ := flatP_reads (h := s.heap) q rel hp
    exact .dict e hx.1 hd i1 i2 hm
theorem DtAll.rd (I : Inv X pins σ H s) : ∀ {vs : List V} {ds : List PyData}, DtAll H S vs ds → ∀ {us : List Value}, Vals vs us → RdXAll s.heap us ds
  | _, _, .nil, _, .nil => .nil
  | _, _, .cons h q, _, .cons r rr => .cons (Dt.rd I h r) (DtAll.rd I q rr)
end
/-- a datum that repr can show -/
structure Shows (d : PyData) : Prop where
  sh : d.showable = true
  len : d.shown.length ≤ 1000000
  dep : d.depth ≤ 60
def rRep (S : Addr → Prop) : List V → Hp → VK → Prop := fun xs H Q => ∃ v d, xs = [v] ∧ Dt H S v d ∧ Shows d ∧ Q (.str d.shown) H
theorem call_rep (hg : X.A.guards = some []) (hu : X.A.units + 100 < cLine) (S : Addr → Prop) : CallR X (.builtin "repr") (rRep S) := by
  intro pins s σ H xs us Q I r h
  obtain ⟨v, d, rfl, hd, z, q⟩ := h
  cases r with
  | cons rv rn =>
    cases rn
    have hl : d.shown.length ≤ sizeLine := Nat.le_trans z.len (by rw [sizeLine_eq]; decide)
    have hdp := z.dep
    exact repr_call (hd.rd I rv) z.sh hl hg (by omega) fun h' u tk k => ⟨.str d.shown, H, I.kept (t' := tk) k, ⟨_, rfl⟩, q⟩
end
end Vx
end L2

set_option Elab.async false
set_option linter.all false
set_option maxRecDepth 100000
set_option maxHeartbeats 4000000
namespace Vf
open PySem PySem.Spec PyProof.Rows L2
/-! ### the text by places -/
def top (i : Nat) : Stmt := PySem.Challenge.pw_piecesseen_k01_errors.main.body.getD i (.Pass ⟨0, 0, 0, 0⟩)
abbrev sDeck : Stmt := top 14
abbrev sDraw : Stmt := top 15
abbrev sPick : Stmt := top 16
/-! ### the deck: what holds of it between draws -/
theorem same_new {H : Hp} {p : Addr} (h : H p = none) (o : HO) : Same H (upd H p o) := fun b u q => by rw [upd_ne (ne_of_none q h)]; exact q
/-- a deck at d, its digits at g -/
def DeckAt (H : Hp) (d g : Addr) : Prop := ∃ (ns : List Int) (m n : Int), H d = some (.lst [.ref g, .int m, .int n]) ∧ H g = some (.lst (ns.map V.int)) ∧ ns.length ≤ 63 ∧ d ≠ g
/-- all that was tracked stands, but for d and g -/
def Keeps (d g : Addr) (H H' : Hp) : Prop := ∀ b o, b ≠ d → b ≠ g → H b = some o → H' b = some o
theorem Keeps.refl (d g : Addr) (H : Hp) : Keeps d g H H := fun _ _ _ _ h => h
theorem Keeps.trans {d g : Addr} {H H1 H2 : Hp} (a : Keeps d g H H1) (b : Keeps d g H1 H2) : Keeps d g H H2 := fun c o n1 n2 h => b c o n1 n2 (a c o n1 n2 h)
theorem Keeps.of {d g : Addr} {H H' : Hp} (s : Same H H') : Keeps d g H H' := fun b o _ _ h => s b o h
theorem Keeps.upd_d {d g : Addr} {H H' : Hp} (k : Keeps d g H H') (o : HO) : Keeps d g H (upd H' d o) := fun b u n1 n2 h => by rw [upd_ne n1]; exact k b u n1 n2 h
theorem Keeps.upd_g {d g : Addr} {H H' : Hp} (k : Keeps d g H H') (o : HO) : Keeps d g H (upd H' g o) := fun b u n1 n2 h => by rw [upd_ne n2]; exact k b u n1 n2 h
theorem DeckAt.same {H H' : Hp} {d g : Addr} (h : DeckAt H d g) (s : Same H H') : DeckAt H' d g := by
  obtain ⟨ns, m, n, h1, h2, h3, h4⟩ := h
  exact ⟨ns, m, n, s _ _ h1, s _ _ h2, h3, h4⟩
theorem DeckAt.dn {H : Hp} {d g p : Addr} (h : DeckAt H d g) (hp : H p = none) : p ≠ d ∧ p ≠ g := by
  obtain ⟨ns, m, n, h1, h2, _⟩ := h
  exact ⟨(ne_of_none h1 hp).symm, (ne_of_none h2 hp).symm⟩
/-! ### promises -/
def spDeck (K : PySem.W.Frag) : Sp := fun vs H Q _ => ∃ (a : Addr) (ns : List Int), vs = [.ref a] ∧ SqL K H a (ns.map V.int) ∧ ns.length ≤ 63 ∧
  ∀ (d g : Addr) (H' : Hp), Same H H' → H d = none → H g = none → DeckAt H' d g → Q (.ref d) H'
def spDraw : Sp := fun vs H Q _ => ∃ (d g : Addr) (b : Int), vs = [.ref d, .int b] ∧ 0 < b ∧ b < 1073741824 ∧ DeckAt H d g ∧
  ∀ (r : Int) (H' : Hp), 0 ≤ r → r < b → DeckAt H' d g → Keeps d g H H' → Q (.int r) H'
def spPick (K : PySem.W.Frag) : Sp := fun vs H Q _ => ∃ (d g p : Addr) (xs : List V), vs = [.ref d, .ref p] ∧ (SqL K H p xs) ∧ p ≠ d ∧ p ≠ g ∧ xs ≠ [] ∧ xs.length < 1000000 ∧ DeckAt H d g ∧
  ∀ (x : V) (H' : Hp), x ∈ xs → DeckAt H' d g → Keeps d g H H' → Q x H'
/-- what the top leaves of the names that these defs use -/
structure TxtD (mg : Str → Option Value) (fW : Addr) : Prop where
  list : mg "list" = none
  int : mg "int" = none
  len : mg "len" = none
  draw : mg "_law_draw" = some (.ref fW)
section
variable {P : Program} {w : World} {K : PySem.W.Frag} {mg : Str → Option Value} {base : Heap}
theorem scDeck : FnScope ["_law_script", "_law_digits", "_law_mixed", "_law_cell"] ["_law_script"] (defScope sDeck) := ⟨rfl, rfl, rfl, by decide +kernel, rfl, by decide +kernel, by decide +kernel⟩
theorem int_at {ns : List Int} {i : Nat} {y : V} (h : (ns.map V.int)[i]? = some y) : ∃ z : Int, ns[i]? = some z ∧ y = .int z := by
  rw [List.getElem?_map] at h
  cases e : ns[i]? with
  | none => rw [e] at h; cases h
  | some z => rw [e] at h; exact ⟨z, rfl, (Option.some.inj h).symm⟩
theorem cut63 {xs : List V} (h : xs.length ≤ 63) : cutV xs none (some 63) = xs := by
  unfold cutV
  have e1 : HT.sIx xs.length 0 none = 0 := rfl
  have e2 : HT.sIx xs.length xs.length (some 63) = min 63 xs.length := HT.sIx_nat _ _ 63
  rw [e1, e2, List.drop_zero]
  exact List.take_of_length_le (by omega)
theorem ok_deck {f : Addr} {fd : FuncData} {fW : Addr} (F : Fun K "_law_deck" "_law_deck" sDeck f fd) (T : TxtD mg fW) : FnOk P w K mg base CX0 1 f fd ["_law_script"] (spDeck K) := by
  refine F.ok scDeck (fun vs H Q E h => ?_) (fun cdv A outer s H vs Q E hr h => ?_)
  · obtain ⟨a, ns, rfl, _⟩ := h
    rfl
  obtain ⟨a, ns, rfl, hS, h63, k⟩ := h
  refine ⟨_, pss_cons (ps_par (i := 1) (j := 2) rfl scDeck.nd rfl rfl (by decide) rfl rfl (pa_cons (pe_callTy call_list_of (by rfl) T.list (by decide +kernel) (pa_cons (pe_slice sl_list (pv 0) po_none (po_some pe_int)) pa_nil)) (pa_cons pe_int pa_nil)) (by rfl))
    (pss_cons (ps_for PassesOwn.never rfl (pi_list (pv 1)) (pg_name (i := 3) scDeck.nd rfl (Or.inl rfl))
      (pss_one (ps_set (i := 2) scDeck.nd rfl (Or.inl rfl) (pe_op op_mod (pe_callTy call_int1 (by rfl) T.int (by decide +kernel) (pa_cons (pe_op op_add (pe_op op_add (pe_op op_mul (pv 2) pe_int) (pe_op op_mod (pe_callTy call_int1 (by rfl) T.int (by decide +kernel) (pa_cons (pv 3) pa_nil)) pe_int)) pe_int) pa_nil)) pe_int))))
    (pss_one (ps_ret (pe_lst (pa_cons (pe_revL (pv 1)) (pa_cons (pv 2) (pa_cons pe_int pa_nil))))))), ?_⟩
  have hlm : (ns.map V.int).length = ns.length := List.length_map _
  refine ⟨_, rfl, _, rfl, a, _, rfl, hS, fun p hp => ?_⟩
  rw [cut63 (by rw [hlm]; exact h63)]
  refine ⟨p, _, rfl, .inl (SqL.of upd_same), fun l hl => ?_⟩
  refine ⟨_, _, rfl, ?_⟩
  have s1 : Same H (upd (upd H p (.lst (ns.map V.int))) l (.lst (ns.map V.int))) := (same_new hp _).trans (same_new hl _)
  have hl0 : H l = none := (same_new hp _).free hl
  refine ⟨_, rfl, l, rfl, ⟨_, SqL.of upd_same⟩, for_list (K := K) (a := l) (xs := ns.map V.int) (fun i σ H' => ∃ (m : Int) (v : Option V), σ = [some (.ref a), some (.ref l), some (.int m), v] ∧ -4294967296 < m ∧ m < 4294967296 ∧ H' = upd (upd H p (.lst (ns.map V.int))) l (.lst (ns.map V.int)))
    ⟨_, none, rfl, by decide, by decide, rfl⟩ (fun i σ H' _ ⟨_, _, _, _, _, e⟩ => e ▸ SqL.of upd_same) ?_ ?_⟩
  · rintro i y σ H' hi ⟨m, v, rfl, hm0, hm1, rfl⟩
    obtain ⟨z, _, rfl⟩ := int_at hi
    refine ⟨_, rfl, _, _, rfl, rfl, .inr ⟨by decide, by decide⟩, _, rfl, .inl ⟨_, rfl, _, _, rfl, rfl, (by show (0 : Int) < _; decide), _, _, rfl, rfl, _, _, rfl, rfl, .inl ⟨_, rfl, _, _, rfl, rfl, (by show (0 : Int) < _; decide), ?_⟩⟩⟩
    refine ⟨_, some (.int z), rfl, ?_, ?_, rfl⟩
    · exact Int.lt_of_lt_of_le (by decide) (Int.emod_nonneg _ (by decide))
    · exact Int.lt_trans (Int.emod_lt_of_pos _ (by decide)) (by decide)
  · rintro σ H' ⟨m, v, rfl, hm0, hm1, rfl⟩
    refine ⟨_, rfl, l, _, rfl, SqL.of upd_same, fun g hg => ?_⟩
    refine ⟨_, rfl, (by show 3 ≤ sizeLine; decide), fun d hd => ?_⟩
    have s2 : Same H (upd (upd (upd H p (.lst (ns.map V.int))) l (.lst (ns.map V.int))) g (.lst (ns.map V.int).reverse)) := s1.trans (same_new hg _)
    refine k d g _ (s2.trans (same_new hd _)) (s2.free hd) (s1.free hg) ⟨ns.reverse, m, 0, upd_same, ?_, by rw [List.length_reverse]; exact h63, (ne_of_none upd_same hd).symm⟩
    rw [upd_ne (ne_of_none upd_same hd), upd_same, List.map_reverse]
/-! ### a draw -/
theorem scDraw : FnScope ["_law_deck_here", "_law_below", "_law_mixed", "_law_cell"] ["_law_deck_here", "_law_below"] (defScope sDraw) := ⟨rfl, rfl, rfl, by decide +kernel, rfl, by decide +kernel, by decide +kernel⟩
theorem canLay_ints : ∀ ns : List Int, PyData.canLayAll0 (ns.map .int) = true
  | [] => rfl
  | n :: r => by simp only [List.map, PyData.canLayAll0, PyData.canLay0, canLay_ints r, Bool.and_self]
theorem depth_ints : ∀ ns : List Int, PyData.depthAll (ns.map .int) = 0
  | [] => rfl
  | n :: r => by simp only [List.map, PyData.depthAll, PyData.depth, depth_ints r, Nat.max_self]
theorem shaped_ints (ns : List Int) : SeqAt.shaped (.list (ns.map .int)) = true := by
  simp [SeqAt.shaped, PyData.canLay0, canLay_ints, PyData.depth, depth_ints]
theorem eqv_nil (ns : List Int) : PyData.eqv (.list (ns.map .int)) (.list []) = ns.isEmpty := by
  cases ns <;> simp [PyData.eqv, PyData.eqvAll]
theorem dpAll_ints {H : Hp} : ∀ ns : List Int, DpAll K H (ns.map V.int) (ns.map .int)
  | [] => .nil
  | n :: r => .cons (.int n) (dpAll_ints r)
theorem dp_ints {H : Hp} {a : Addr} {ns : List Int} (h : SqL K H a (ns.map V.int)) : Dp K H (.ref a) (.list (ns.map .int)) := .lst h (dpAll_ints ns)
theorem lst_ne {a b : Addr} {H : Hp} {xs ys : List V} (h : H a = some (.lst xs)) (h' : H b = some (.lst ys)) (e : xs ≠ ys) : a ≠ b := ne_of h h' fun q => e (HO.lst.inj q)
theorem ok_draw {f : Addr} {fd : FuncData} {fW : Addr} (F : Fun K "_law_draw" "_law_draw" sDraw f fd) (T : TxtD mg fW) : FnOk P w K mg base CX0 1 f fd ["_law_deck_here", "_law_below"] spDraw := by
  refine F.ok scDraw (fun vs H Q E h => ?_) (fun cdv A outer s H vs Q E hr h => ?_)
  · obtain ⟨d, g, b, rfl, _⟩ := h
    rfl
  obtain ⟨d, g, b, rfl, hb0, hb1, ⟨ns, m, n, h1, h2, h63, hdg⟩, k⟩ := h
  refine ⟨_, pss_cons (ps_asg (pe_op op_add (pe_ix ix_list (pv 0) pe_int (fun _ _ => rfl)) pe_int) (pg_sub (pv 0) pe_int set_list))
    (pss_cons (ps_set (i := 2) scDraw.nd rfl (Or.inl rfl) (pe_op op_add (pe_ix ix_list (pv 0) pe_int (fun _ _ => rfl)) (pe_op op_mul pe_int (pe_ix ix_list (pv 0) pe_int (fun _ _ => rfl)))))
    (C8.pss_cut (ps_if (pt_cmpR (op_neD hr.units) (pe_ix ix_list (pv 0) pe_int (fun _ _ => rfl)) (pe_lst pa_nil) (nomark _))
        (pss_cons (ps_set (i := 3) scDraw.nd rfl (Or.inl rfl) (pe_bm0 PySem.F.plainAttrs_list PySem.F.slot_list_pop PySem.F.type_list_pop mt_pop (pe_ix ix_list (pv 0) pe_int (fun _ _ => rfl))))
        (pss_cons (ps_if (pt_cmpR op_ge (pv 3) (pe_op op_pow pe_int pe_int) (nomark _))
            (pss_cons (ps_expr (pe_bm PySem.F.plainAttrs_list PySem.F.slot_list_append PySem.F.type_list_append mt_append (pe_ix ix_list (pv 0) pe_int (fun _ _ => rfl)) (pa_cons (pe_op op_fdivN (pv 3) (pv 1)) pa_nil)))
            (pss_one (ps_ret (pe_callTy call_int1 (by rfl) T.int (by decide +kernel) (pa_cons (pe_op op_modN (pv 3) (pv 1)) pa_nil))))) pss_nil)
        (pss_one (ps_set (i := 2) scDraw.nd rfl (Or.inl rfl) (pe_op op_add (pv 2) (pe_op op_mod (pe_callTy call_int1 (by rfl) T.int (by decide +kernel) (pa_cons (pv 3) pa_nil)) pe_int)))))) pss_nil)
    (pss_cons (ps_set (i := 2) scDraw.nd rfl (Or.inl rfl) (pe_op op_mod (pe_callTy call_int1 (by rfl) T.int (by decide +kernel) (pa_cons (pe_op op_add (pe_op op_mul (pv 2) pe_int) pe_int) pa_nil)) pe_int))
    (pss_cons (ps_set (i := 2) scDraw.nd rfl (Or.inl rfl) (pe_op op_mod (pe_callTy call_int1 (by rfl) T.int (by decide +kernel) (pa_cons (pe_op op_add (pe_op op_add (pe_op op_mul (pv 2) (pv 2)) (pe_op op_mul pe_int (pe_ix ix_list (pv 0) pe_int (fun _ _ => rfl)))) pe_int) pa_nil)) pe_int))
    (pss_one (ps_ret (pe_op op_modN (pe_op op_fdiv (pe_op op_mod (pe_op op_mul (pv 2) pe_int) pe_int) pe_int) (pv 1)))))))), ?_⟩
  have t0 : (0 : Int) < 4294967296 := by decide
  -- the third item goes up
  refine ⟨_, rfl, d, _, 2, _, rfl, rfl, SqL.of h1, rfl, _, _, rfl, rfl, _, rfl, d, _, 2, 2, rfl, rfl, h1, rfl, ?_⟩
  have hgd : g ≠ d := hdg.symm
  have e1 : (upd H d (.lst ([V.ref g, V.int m, V.int n].set 2 (V.int (n + 1))))) d = some (.lst [.ref g, .int m, .int (n + 1)]) := upd_same
  have e2 : (upd H d (.lst ([V.ref g, V.int m, V.int n].set 2 (V.int (n + 1))))) g = some (.lst (ns.map V.int)) := by rw [upd_ne hgd]; exact h2
  have kp : Keeps d g H (upd H d (.lst ([V.ref g, V.int m, V.int n].set 2 (V.int (n + 1))))) := (Keeps.refl d g H).upd_d _
  generalize upd H d (.lst ([V.ref g, V.int m, V.int n].set 2 (V.int (n + 1)))) = H1 at e1 e2 kp
  refine ⟨_, rfl, d, _, 1, _, rfl, rfl, SqL.of e1, rfl, _, rfl, d, _, 2, _, rfl, rfl, SqL.of e1, rfl, _, _, rfl, rfl, .inl ⟨by decide, by decide⟩, _, _, rfl, rfl, ?_⟩
  -- what stands behind the if
  refine ⟨fun σ H' => ∃ (x : Int) (v : Option V), σ = [some (.ref d), some (.int b), some (.int x), v] ∧ DeckAt H' d g ∧ Keeps d g H H', ?_, ?_⟩
  · refine ⟨_, rfl, d, _, 0, _, rfl, rfl, SqL.of e1, rfl, Nat.zero_le _, fun p hp => ?_⟩
    have hpd : p ≠ d := (ne_of_none e1 hp).symm
    have hpg : p ≠ g := (ne_of_none e2 hp).symm
    have e3 : upd H1 p (.lst []) d = some (.lst [.ref g, .int m, .int (n + 1)]) := by rw [upd_ne hpd.symm]; exact e1
    have e4 : upd H1 p (.lst []) g = some (.lst (ns.map V.int)) := by rw [upd_ne hpg.symm]; exact e2
    have kp1 : Keeps d g H (upd H1 p (.lst [])) := kp.trans (.of (same_new hp _))
    refine ⟨_, _, dp_ints (SqL.of e4), .lst (SqL.of upd_same) .nil, shaped_ints ns, rfl, _, rfl, ?_⟩
    rw [eqv_nil]
    generalize upd H1 p (.lst []) = H2 at e3 e4 kp1
    rcases List.eq_nil_or_concat ns with rfl | ⟨ms, z, rfl⟩
    · rw [if_neg (by simp)]
      exact ⟨_, none, rfl, ⟨[], m, n + 1, e3, e4, Nat.zero_le _, hdg⟩, kp1⟩
    · rw [if_pos (by simp)]
      rw [List.concat_eq_append, List.map_append] at e4
      rw [List.concat_eq_append] at h63
      have e4' : H2 g = some (.lst (ms.map V.int ++ [V.int z])) := e4
      have hlast : (ms.map V.int ++ [V.int z])[(ms.map V.int ++ [V.int z]).length - 1]? = some (V.int z) := by simp
      have hms : ms.length + 1 ≤ 63 := by rw [List.length_append, List.length_singleton] at h63; exact h63
      refine ⟨_, rfl, d, _, 0, _, rfl, rfl, SqL.of e3, rfl, .inl ⟨rfl, _, SqL.of e4'⟩, g, _, _, rfl, rfl, e4', hlast, ?_⟩
      have e5 : upd H2 g (.lst (ms.map V.int ++ [V.int z]).dropLast) d = some (.lst [.ref g, .int m, .int (n + 1)]) := by rw [upd_ne hdg]; exact e3
      have e6 : upd H2 g (.lst (ms.map V.int ++ [V.int z]).dropLast) g = some (.lst (ms.map V.int)) := by rw [upd_same, List.dropLast_concat]
      have kp3 : Keeps d g H (upd H2 g (.lst (ms.map V.int ++ [V.int z]).dropLast)) := kp1.upd_g _
      generalize upd H2 g (.lst (ms.map V.int ++ [V.int z]).dropLast) = H3 at e5 e6 kp3
      refine ⟨_, rfl, _, _, rfl, rfl, ⟨by decide, by decide, by decide⟩, _, _, rfl, rfl, _, rfl, ?_⟩
      refine ite2 (fun _ => ?_) (fun _ => ?_)
      · refine ⟨_, rfl, d, _, 0, _, rfl, rfl, SqL.of e5, rfl, .inl ⟨rfl, _, SqL.of e6⟩, _, rfl, _, rfl, _, _, rfl, rfl, ⟨by omega, by omega⟩, g, _, _, rfl, rfl, e6, ?_, ?_⟩
        · rw [List.length_map]
          exact small1000 (by omega)
        · refine ⟨_, rfl, _, rfl, _, _, rfl, rfl, (by show b ≠ 0; omega), .inl ⟨_, rfl, ?_⟩⟩
          refine k _ _ (Int.fmod_nonneg_of_pos _ hb0) (Int.fmod_lt_of_pos _ hb0) ⟨ms ++ [z.fdiv b], m, n + 1, ?_, ?_, ?_, hdg⟩ (kp3.upd_g _)
          · rw [upd_ne hdg]; exact e5
          · rw [upd_same, List.map_append]; rfl
          · rw [List.length_append, List.length_singleton]; exact hms
      · refine ⟨_, rfl, _, rfl, .inl ⟨_, rfl, _, _, rfl, rfl, (by show (0 : Int) < _; decide), _, _, rfl, rfl, ?_⟩⟩
        exact ⟨_, _, rfl, ⟨ms, m, n + 1, e5, e6, by omega, hdg⟩, kp3⟩
  · rintro σ H2 ⟨x, v, rfl, ⟨ns', m', n', g1, g2, g63, _⟩, kp2⟩
    have hc : (0 : Int) < 2147483647 := by decide
    refine ⟨_, rfl, _, _, rfl, rfl, .inr ⟨by decide, by decide⟩, _, _, rfl, rfl, .inl ⟨_, rfl, _, _, rfl, rfl, (by show (0 : Int) < _; decide), ?_⟩⟩
    refine ⟨_, rfl, _, rfl, _, _, rfl, rfl, .inl ⟨?b1, ?b2⟩, ?_⟩
    case b1 => exact Int.lt_of_lt_of_le (by decide) (Int.emod_nonneg _ (by decide))
    case b2 => exact Int.lt_trans (Int.emod_lt_of_pos _ (by decide)) (by decide)
    refine ⟨_, rfl, d, _, 2, _, rfl, rfl, SqL.of g1, rfl, _, _, rfl, rfl, .inl ⟨by decide, by decide⟩, _, _, rfl, rfl, _, _, rfl, rfl, .inl ⟨_, rfl, _, _, rfl, rfl, (by show (0 : Int) < _; decide), ?_⟩⟩
    refine ⟨_, rfl, _, _, rfl, rfl, .inr ⟨by decide, by decide⟩, _, _, rfl, rfl, (by show (0 : Int) < _; decide), _, _, rfl, rfl, ⟨by decide, by decide⟩, _, rfl, _, _, rfl, rfl, (by show b ≠ 0; omega), ?_⟩
    have hbb : 0 ≤ b := by omega
    exact k _ H2 (Int.fmod_nonneg_of_pos _ hb0) (Int.fmod_lt_of_pos _ hb0) ⟨ns', m', n', g1, g2, g63, hdg⟩ kp2
/-! ### a pick -/
theorem scPick : FnScope ["_law_deck_here", "_law_some"] ["_law_deck_here", "_law_some"] (defScope sPick) := ⟨rfl, rfl, rfl, by decide +kernel, rfl, by decide +kernel, by decide +kernel⟩
theorem Keeps.seq {d g a : Addr} {H H' : Hp} {xs : List V} (k : Keeps d g H H') (n1 : a ≠ d) (n2 : a ≠ g) (h : SqL K H a xs) : SqL K H' a xs := by
  rcases h with (h | ⟨o, h⟩) | h
  · exact .inl (.inl (k _ _ n1 n2 h))
  · exact .inl (.inr ⟨o, k _ _ n1 n2 h⟩)
  · exact .inr h
theorem ok_pick {f : Addr} {fd : FuncData} {fW : Addr} {fdW : FuncData} (F : Fun K "_law_pick" "_law_pick" sPick f fd) (FW : Fun K "_law_draw" "_law_draw" sDraw fW fdW) (bW : Binds K fdW ["_law_deck_here", "_law_below"] []) (T : TxtD mg fW) : FnOk P w K mg base CX0 2 f fd ["_law_deck_here", "_law_some"] (spPick K) := by
  have GW : FnOk P w K mg base CX0 1 fW fdW ["_law_deck_here", "_law_below"] spDraw := ok_draw FW T
  refine F.ok scPick (fun vs H Q E h => ?_) (fun cdv A outer s H vs Q E hr h => ?_)
  · obtain ⟨d, g, p, xs, rfl, _⟩ := h
    rfl
  obtain ⟨d, g, p, xs, rfl, hS, n1, n2, hne, hlen, hD, k⟩ := h
  refine ⟨_, pss_one (ps_ret (pe_ix ix_list (pv 1) (pe_call GW hr rfl T.draw FW.kp bW .nil pass0 (pa_cons (pv 0) (pa_cons (pe_callB call_len_seq (by rfl) T.len PySem.boot_len (pa_cons (pv 1) pa_nil)) pa_nil))) (fun _ _ => rfl))), ?_⟩
  have hpos : 0 < xs.length := List.length_pos_iff.mpr hne
  refine ⟨_, rfl, _, rfl, _, rfl, p, _, rfl, .inl hS, d, g, _, rfl, by omega, by omega, hD, fun r H' h0 h1 hD' kp => ?_⟩
  have hr : r.toNat < xs.length := by omega
  have er : r = ((r.toNat : Nat) : Int) := by omega
  have hx : atI xs r = some xs[r.toNat] := at_of er (List.getElem?_eq_getElem hr)
  exact ⟨p, _, r, _, rfl, rfl, kp.seq n1 n2 hS, hx, k _ H' (List.getElem_mem hr) hD' kp⟩
end
end Vf

set_option Elab.async false
set_option linter.all false
set_option maxRecDepth 100000
set_option maxHeartbeats 4000000
namespace Vf
open PySem PySem.Spec PyProof.Rows L2 L2.Vx
abbrev sValue : Stmt := top 17
def boundL : Nat → Nat
  | 0 => 100
  | n + 1 => 5 * boundL n
structure Good (n : Nat) (D : PyData) : Prop where
  sh : D.showable = true
  len : D.shown.length ≤ boundL n
  dep : D.depth ≤ n + 4
theorem boundL_up : ∀ {m n : Nat}, m ≤ n → boundL m ≤ boundL n
  | m, 0, h => by rw [Nat.le_zero.mp h]; exact Nat.le_refl _
  | m, n + 1, h => by
    rcases Nat.lt_or_ge n m with z | z
    · rw [show m = n + 1 by omega]; exact Nat.le_refl _
    · have q := boundL_up z
      show boundL m ≤ 5 * boundL n
      omega
theorem Good.up {m n : Nat} {D : PyData} (h : Good m D) (z : m ≤ n) : Good n D := ⟨h.sh, Nat.le_trans h.len (boundL_up z), by have := h.dep; omega⟩
theorem showAll : ∀ {ds : List PyData}, (∀ x ∈ ds, x.showable = true) → PyData.showableAll ds = true
  | [], _ => rfl
  | x :: r, h => by
    simp only [PyData.showableAll, h x (List.mem_cons_self ..), Bool.true_and]
    exact showAll fun y hy => h y (List.mem_cons_of_mem _ hy)
theorem Keeps.free {d g t : Addr} {H H' : Hp} (k : Keeps d g H H') (n1 : t ≠ d) (n2 : t ≠ g) (e : H' t = none) : H t = none := by
  cases z : H t with
  | none => rfl
  | some u =>
    have y := k t u n1 n2 z
    rw [e] at y
    exact nomatch y
theorem depthAll_le {n : Nat} : ∀ {ds : List PyData}, (∀ x ∈ ds, x.depth ≤ n) → PyData.depthAll ds ≤ n
  | [], _ => Nat.zero_le _
  | x :: r, h => by
    simp only [PyData.depthAll]
    exact Nat.max_le.mpr ⟨h x (List.mem_cons_self ..), depthAll_le fun y hy => h y (List.mem_cons_of_mem _ hy)⟩
theorem sum_le {b : Nat} : ∀ {ds : List PyData}, (∀ x ∈ ds, x.shown.length ≤ b) → ((PyData.shownAll ds).map (·.length)).sum ≤ ds.length * b
  | [], _ => by simp [PyData.shownAll]
  | x :: r, h => by
    have h1 := h x (List.mem_cons_self ..)
    have h2 := sum_le fun y hy => h y (List.mem_cons_of_mem _ hy)
    simp only [PyData.shownAll, List.map_cons, List.sum_cons, List.length_cons, Nat.add_mul, Nat.one_mul]
    omega
theorem boundL_pos : ∀ n, 100 ≤ boundL n
  | 0 => Nat.le_refl _
  | n + 1 => by
    have q := boundL_pos n
    show 100 ≤ 5 * boundL n
    omega
theorem good_bound {k : Nat} (hk : 0 < k) {ds : List PyData} (h : ∀ x ∈ ds, Good (k - 1) x) (hn : ds.length ≤ 3) : ((PyData.shownAll ds).map (·.length)).sum + 2 * (PyData.shownAll ds).length + 3 ≤ boundL k ∧ PyData.depthAll ds + 1 ≤ k + 4 ∧ PyData.showableAll ds = true := by
  obtain ⟨m, rfl⟩ : ∃ m, k = m + 1 := ⟨k - 1, by omega⟩
  have e : m + 1 - 1 = m := by omega
  rw [e] at h
  have h1 := sum_le fun x hx => (h x hx).len
  have h2 := depthAll_le fun x hx => (h x hx).dep
  have h3 := boundL_pos m
  have h4 : ds.length * boundL m ≤ 3 * boundL m := Nat.mul_le_mul_right _ hn
  refine ⟨?_, by omega, showAll fun x hx => (h x hx).sh⟩
  rw [PyData.shownAll_length]
  show _ ≤ 5 * boundL m
  omega
theorem good_lst {k : Nat} (hk : 0 < k) {ds : List PyData} (h : ∀ x ∈ ds, Good (k - 1) x) (hn : ds.length ≤ 3) : Good k (.list ds) := by
  obtain ⟨h1, h2, h3⟩ := good_bound hk h hn
  refine ⟨by simpa only [PyData.showable] using h3, ?_, by simpa only [PyData.depth] using h2⟩
  simp only [PyData.shown]
  exact Nat.le_trans (listText_len_le _) h1
theorem good_tup {k : Nat} (hk : 0 < k) {ds : List PyData} (h : ∀ x ∈ ds, Good (k - 1) x) (hn : ds.length ≤ 3) : Good k (.tuple ds) := by
  obtain ⟨h1, h2, h3⟩ := good_bound hk h hn
  refine ⟨by simpa only [PyData.showable] using h3, ?_, by simpa only [PyData.depth] using h2⟩
  simp only [PyData.shown]
  exact Nat.le_trans (tupleText_len_le _) h1
theorem DeckAt.other {H : Hp} {d g p : Addr} (h : DeckAt H d g) (n1 : p ≠ d) (n2 : p ≠ g) (o : HO) : DeckAt (upd H p o) d g := by
  obtain ⟨ns, m, n, h1, h2, h3, h4⟩ := h
  exact ⟨ns, m, n, by rw [upd_ne n1.symm]; exact h1, by rw [upd_ne n2.symm]; exact h2, h3, h4⟩
def Off (d g : Addr) (H : Hp) : Addr → Prop := fun a => (a ≠ d ∧ a ≠ g) ∧ H a = none
/-- value(deck, k), k + 1 = m -/
def spVal (m : Nat) : Sp := fun vs H Q _ => ∃ (d g : Addr) (k : Nat), k + 1 = m ∧ vs = [.ref d, .int k] ∧ DeckAt H d g ∧
  ∀ (v : V) (D : PyData) (H' : Hp), Dt H' (Off d g H) v D → Good k D → DeckAt H' d g → Keeps d g H H' → Q v H'
structure TxtV (mg : Str → Option Value) (fW fP fV : Addr) : Prop extends TxtD mg fW where
  pick : mg "_law_pick" = some (.ref fP)
  value : mg "_law_value" = some (.ref fV)
  range : mg "range" = none
  tuple : mg "tuple" = none
section
variable {P : Program} {w : World} {K : PySem.W.Frag} {mg : Str → Option Value} {base : Heap}
theorem scValue : FnScope ["_law_deck_here", "_law_deep", "_law_some", "_law_parts", "_law_k"] ["_law_deck_here", "_law_deep"] (defScope sValue) := ⟨rfl, rfl, rfl, by decide +kernel, rfl, by decide +kernel, by decide +kernel⟩
theorem ok_value {n : Nat} {f fW fP : Addr} {fd fdW fdP : FuncData} (F : Fun K "_law_value" "_law_value" sValue f fd) (G : FnOk P w K mg base CX0 (n + 2) f fd ["_law_deck_here", "_law_deep"] (spVal n)) (b : Binds K fd ["_law_deck_here", "_law_deep"] [])
    (GW : FnOk P w K mg base CX0 1 fW fdW ["_law_deck_here", "_law_below"] spDraw) (bW : Binds K fdW ["_law_deck_here", "_law_below"] []) (kW : PySem.W.keepIn K (.ref fW) = true)
    (GP : FnOk P w K mg base CX0 2 fP fdP ["_law_deck_here", "_law_some"] (spPick K)) (bP : Binds K fdP ["_law_deck_here", "_law_some"] []) (kP : PySem.W.keepIn K (.ref fP) = true) (T : TxtV mg fW fP f) :
    FnOk P w K mg base CX0 (n + 3) f fd ["_law_deck_here", "_law_deep"] (spVal (n + 1)) := by
  refine F.ok scValue (fun vs H Q E h => ?_) (fun cdv A outer s H vs Q E hr h => ?_)
  · obtain ⟨d, g, k, _, rfl, _⟩ := h
    rfl
  obtain ⟨d, g, k, ek, rfl, hD, q⟩ := h
  have hr1 : Room 1 _ := hr.mono (by omega)
  have hr2 : Room 2 _ := hr.mono (by omega)
  refine ⟨_, pss_cons (ps_set (i := 2) scValue.nd rfl (Or.inl rfl) (pe_lst (pa_cons pe_non (pa_cons pe_bl (pa_cons pe_int (pa_cons (pe_un un_neg pe_int) (pa_cons (pe_op op_pow pe_int pe_int) (pa_cons pe_str (pa_cons pe_str (pa_cons pe_str
      (pa_cons (pe_tup (pa_cons pe_str (pa_cons pe_str (pa_cons pe_str (pa_cons (pe_tup pa_nil) pa_nil))))) (pa_cons (pe_tup pa_nil) (pa_cons (pe_lst pa_nil) (pa_cons pe_dnewK (pa_cons (pe_disp (pps_cons pe_str pe_int pps_nil) (by rfl) (by rfl) (fun z => by cases z) (by decide)) pa_nil)))))))))))))))
    (pss_cons (ps_if (PW.pt (pw_and (pt_cmpR op_gt (pv 1) pe_int (nomark _)) (pw_and1 (pt_cmpR op_eq (pe_call GW hr1 rfl T.draw kW bW .nil pass0 (pa_cons (pv 0) (pa_cons pe_int pa_nil))) pe_int (nomark _)))))
        (pss_cons (ps_setLc (i := 3) (own := [("_law_k", 4)]) (g := gName 4) (tt := tYes) rfl scValue.nd rfl rfl (sw_true rfl rfl rfl (by decide +kernel)) (pi_range1 rfl T.range (pa_cons (pe_call GW hr1 rfl T.draw kW bW .nil pass0 (pa_cons (pv 0) (pa_cons pe_int pa_nil))) pa_nil))
            (blkOk_by (N := ["_law_deck_here", "_law_deep", "_law_some", "_law_parts", "_law_k"]) (sc := defScope sValue) (by decide +kernel)) (fun _ _ _ _ _ => pg_name (i := 4) scValue.nd rfl (Or.inl rfl)) (fun _ _ _ _ _ => pts_nil)
            (fun _ _ _ _ _ => pe_call G hr rfl T.value F.kp b .nil pass0 (pa_cons (pv 0) (pa_cons (pe_op op_sub (pv 1) pe_int) pa_nil))))
        (pss_one (ps_ret (pe_ifExp (pt_cmpR op_eq (pe_call GW hr1 rfl T.draw kW bW .nil pass0 (pa_cons (pv 0) (pa_cons pe_int pa_nil))) pe_int (nomark _)) (pe_callTy call_tuple_of (by rfl) T.tuple (by decide +kernel) (pa_cons (pv 3) pa_nil)) (pv 3))))) pss_nil)
    (pss_one (ps_ret (pe_call GP hr2 rfl T.pick kP bP .nil pass0 (pa_cons (pv 0) (pa_cons (pv 2) pa_nil)))))), ?_⟩
  -- the pool
  refine ⟨_, rfl, _, _, rfl, rfl, ⟨by decide, by decide, by decide⟩, Nat.zero_le _, fun p1 h1 => ?_⟩
  have s1 : Same H (upd H p1 (.tup [])) := same_new h1 _
  have e1 : upd H p1 (.tup []) p1 = some (.tup []) := upd_same
  have o1 : Off d g H p1 := ⟨hD.dn h1, h1⟩
  generalize upd H p1 (.tup []) = H1 at s1 e1 ⊢
  refine ⟨(by show 4 ≤ sizeLine; decide), fun p2 h2 => ?_⟩
  have s2 : Same H1 (upd H1 p2 (.tup [.str "long", .str "", .str "", .ref p1])) := same_new h2 _
  have e2 : upd H1 p2 (.tup [.str "long", .str "", .str "", .ref p1]) p2 = some (.tup [.str "long", .str "", .str "", .ref p1]) := upd_same
  have o2 : Off d g H p2 := ⟨hD.dn (s1.free h2), s1.free h2⟩
  generalize upd H1 p2 (.tup [.str "long", .str "", .str "", .ref p1]) = H2 at s2 e2 ⊢
  have t2 : Same H H2 := s1.trans s2
  refine ⟨Nat.zero_le _, fun p3 h3 => ?_⟩
  have s3 : Same H2 (upd H2 p3 (.tup [])) := same_new h3 _
  have e3 : upd H2 p3 (.tup []) p3 = some (.tup []) := upd_same
  have o3 : Off d g H p3 := ⟨hD.dn (t2.free h3), t2.free h3⟩
  generalize upd H2 p3 (.tup []) = H3 at s3 e3 ⊢
  have t3 : Same H H3 := t2.trans s3
  refine ⟨Nat.zero_le _, fun p4 h4 => ?_⟩
  have s4 : Same H3 (upd H3 p4 (.lst [])) := same_new h4 _
  have e4 : upd H3 p4 (.lst []) p4 = some (.lst []) := upd_same
  have o4 : Off d g H p4 := ⟨hD.dn (t3.free h4), t3.free h4⟩
  generalize upd H3 p4 (.lst []) = H4 at s4 e4 ⊢
  have t4 : Same H H4 := t3.trans s4
  intro p5 h5
  have s5 : Same H4 (upd H4 p5 (.dK [])) := same_new h5 _
  have e5 : upd H4 p5 (.dK []) p5 = some (.dK []) := upd_same
  have o5 : Off d g H p5 := ⟨hD.dn (t4.free h5), t4.free h5⟩
  generalize upd H4 p5 (.dK []) = H5 at s5 e5 ⊢
  have t5 : Same H H5 := t4.trans s5
  intro p6 h6
  refine ⟨upd_same, [(Sum.inr "a", .int 1)], rfl, by decide, ?_⟩
  rw [upd_upd]
  have s6 : Same H5 (upd H5 p6 (.dK (mergeK [] [(Sum.inr "a", .int 1)]))) := same_new h6 _
  have e6 : upd H5 p6 (.dK (mergeK [] [(Sum.inr "a", .int 1)])) p6 = some (.dK [(Sum.inr "a", .int 1)]) := upd_same
  have o6 : Off d g H p6 := ⟨hD.dn (t5.free h6), t5.free h6⟩
  generalize upd H5 p6 (.dK (mergeK [] [(Sum.inr "a", .int 1)])) = H6 at s6 e6 ⊢
  have t6 : Same H H6 := t5.trans s6
  refine ⟨(by show 13 ≤ sizeLine; decide), fun l hl => ?_⟩
  have key : ∀ x ∈ [V.non, V.bl true, V.int 0, V.int (-7), V.int (10 ^ 39), V.str "", V.str "ab", V.str "a b", V.ref p2, V.ref p3, V.ref p4, V.ref p5, V.ref p6], ∃ D, Dt H6 (Off d g H) x D ∧ Good 0 D := by
    refine List.forall_mem_cons.2 ⟨⟨_, .flat rfl, by decide +kernel, by decide +kernel, by decide +kernel⟩, ?_⟩
    refine List.forall_mem_cons.2 ⟨⟨_, .flat rfl, by decide +kernel, by decide +kernel, by decide +kernel⟩, ?_⟩
    refine List.forall_mem_cons.2 ⟨⟨_, .flat rfl, by decide +kernel, by decide +kernel, by decide +kernel⟩, ?_⟩
    refine List.forall_mem_cons.2 ⟨⟨_, .flat rfl, by decide +kernel, by decide +kernel, by decide +kernel⟩, ?_⟩
    refine List.forall_mem_cons.2 ⟨⟨_, .flat rfl, by decide +kernel, by decide +kernel, by decide +kernel⟩, ?_⟩
    refine List.forall_mem_cons.2 ⟨⟨_, .flat rfl, by decide +kernel, by decide +kernel, by decide +kernel⟩, ?_⟩
    refine List.forall_mem_cons.2 ⟨⟨_, .flat rfl, by decide +kernel, by decide +kernel, by decide +kernel⟩, ?_⟩
    refine List.forall_mem_cons.2 ⟨⟨_, .flat rfl, by decide +kernel, by decide +kernel, by decide +kernel⟩, ?_⟩
    refine List.forall_mem_cons.2 ⟨⟨_, .tup (s6 _ _ (s5 _ _ (s4 _ _ (s3 _ _ e2)))) o2 (.cons (.flat rfl) (.cons (.flat rfl) (.cons (.flat rfl) (.cons (.tup (s6 _ _ (s5 _ _ (s4 _ _ (s3 _ _ (s2 _ _ e1))))) o1 .nil) .nil)))), by decide +kernel, by decide +kernel, by decide +kernel⟩, ?_⟩
    refine List.forall_mem_cons.2 ⟨⟨_, .tup (s6 _ _ (s5 _ _ (s4 _ _ e3))) o3 .nil, by decide +kernel, by decide +kernel, by decide +kernel⟩, ?_⟩
    refine List.forall_mem_cons.2 ⟨⟨_, .lst (s6 _ _ (s5 _ _ e4)) o4 .nil, by decide +kernel, by decide +kernel, by decide +kernel⟩, ?_⟩
    refine List.forall_mem_cons.2 ⟨⟨_, .dct (s6 _ _ e5) o5 .nil, by decide +kernel, by decide +kernel, by decide +kernel⟩, ?_⟩
    refine List.forall_mem_cons.2 ⟨⟨_, .dct e6 o6 (.cons (d := .int 1) rfl .nil), by decide +kernel, by decide +kernel, by decide +kernel⟩, fun x z => nomatch z⟩
  have o7 := hD.dn (t6.free hl)
  have s7 := same_new hl (.lst [V.non, V.bl true, V.int 0, V.int (-7), V.int (10 ^ 39), V.str "", V.str "ab", V.str "a b", V.ref p2, V.ref p3, V.ref p4, V.ref p5, V.ref p6])
  have e7 := upd_same (H := H6) (a := l) (o := .lst [V.non, V.bl true, V.int 0, V.int (-7), V.int (10 ^ 39), V.str "", V.str "ab", V.str "a b", V.ref p2, V.ref p3, V.ref p4, V.ref p5, V.ref p6])
  have key7 := fun x hx => (key x hx).imp fun D z => (⟨z.1.mono (fun a o _ e => s7 a o e) (fun _ _ e _ => e), z.2⟩ : Dt (upd H6 l (.lst [V.non, V.bl true, V.int 0, V.int (-7), V.int (10 ^ 39), V.str "", V.str "ab", V.str "a b", V.ref p2, V.ref p3, V.ref p4, V.ref p5, V.ref p6])) (Off d g H) x D ∧ Good 0 D)
  have t7 := t6.trans s7
  clear key s1 s2 s3 s4 s5 s6 s7 e1 e2 e3 e4 e5 e6 t2 t3 t4 t5 t6
  show tSeq _ _ _ _ (upd H6 l (.lst [V.non, V.bl true, V.int 0, V.int (-7), V.int (10 ^ 39), V.str "", V.str "ab", V.str "a b", V.ref p2, V.ref p3, V.ref p4, V.ref p5, V.ref p6]))
  generalize upd H6 l (.lst [V.non, V.bl true, V.int 0, V.int (-7), V.int (10 ^ 39), V.str "", V.str "ab", V.str "a b", V.ref p2, V.ref p3, V.ref p4, V.ref p5, V.ref p6]) = H7 at e7 key7 t7 ⊢
  have hD7 := hD.same t7
  -- the last statement: a pick
  have last : ∀ (H8 : Hp), DeckAt H8 d g → Keeps d g H7 H8 → spPick K [.ref d, .ref l] H8 Q E0 := by
    intro H8 hD8 k8
    refine ⟨d, g, l, _, rfl, SqL.of (k8 _ _ o7.1 o7.2 e7), o7.1, o7.2, (fun z => nomatch z), (by show 13 < 1000000; decide), hD8, fun x H9 hx hD9 k9 => ?_⟩
    obtain ⟨D, hd, hg⟩ := key7 x hx
    exact q x D H9 (hd.mono (fun a o sa e => k9 a o sa.1.1 sa.1.2 (k8 a o sa.1.1 sa.1.2 e)) (fun _ _ e _ => e)) (hg.up (Nat.zero_le k)) hD9 (((Keeps.of t7).trans k8).trans k9)
  refine ⟨_, rfl, _, _, rfl, rfl, _, rfl, ?_⟩
  refine ite2 (fun hk => ?_) (fun _ => ?_)
  · have hk : 0 < k := by
      have z := of_decide_eq_true hk
      omega
    refine ⟨_, rfl, d, g, _, rfl, by decide, by decide, hD7, fun r1 H8 r0 rb hD8 k8 => ⟨rfl, _, rfl, ?_⟩⟩
    refine ite2 (fun _ => ?_) (fun _ => ?_)
    · refine ⟨_, rfl, d, g, _, rfl, by decide, by decide, hD8, fun r2 H9 r20 r2b hD9 k9 => ⟨_, rfl, by omega, by omega, fun D hDn => ?_⟩⟩
      have oD := hD9.dn hDn
      have kH := ((Keeps.of t7).trans k8).trans k9
      refine lc_range (lo := 0) (n := r2.toNat) (fun i H' => ∃ vs ds, H' D = some (.lst vs) ∧ DtAll H' (fun a => Off d g H a ∧ a ≠ D) vs ds ∧ (∀ x ∈ ds, Good (k - 1) x) ∧ ds.length = i ∧ vs.length = i ∧ DeckAt H' d g ∧ Keeps d g H9 H') ?_ ?_ ?_
      · exact ⟨[], [], upd_same, .nil, (fun _ z => nomatch z), rfl, rfl, hD9.same (same_new hDn _), .of (same_new hDn _)⟩
      · rintro i H' hi ⟨vs, ds, hv, hdt, hgd, l1, l2, hD', k'⟩
        refine ⟨rfl, _, rfl, _, rfl, _, _, rfl, rfl, d, g, k - 1, by omega, by rw [show (((k - 1 : Nat)) : Int) = (k : Int) - 1 by omega]; rfl, hD', fun v Dv H2 hdv hgv hD2 k2 => ?_⟩
        have hv2 : H2 D = some (.lst vs) := k2 D _ oD.1 oD.2 hv
        refine ⟨vs, hv2, small1000 (by omega), vs ++ [v], ds ++ [Dv], upd_same, ?_, ?_, ?_, ?_, ?_, ?_⟩
        · refine DtAll.append (hdt.mono (fun a o sa e => ?_) (fun a o sa e => sa)) (.cons (hdv.mono (fun a o sa e => ?_) (fun a o sa e => ⟨⟨sa.1, ?_⟩, ?_⟩)) .nil)
          · rw [upd_ne sa.2]
            exact k2 a o sa.1.1.1 sa.1.1.2 e
          · rw [upd_ne (fun z => by have y := sa.2; rw [z, hv] at y; exact nomatch y)]
            exact e
          · exact (kH.trans k').free sa.1.1 sa.1.2 sa.2
          · intro z
            have y := sa.2
            rw [z, hv] at y
            exact nomatch y
        · intro x hx
          rcases List.mem_append.mp hx with hx | hx
          · exact hgd x hx
          · rw [List.mem_singleton.mp hx]
            exact hgv
        · rw [List.length_append, l1]; rfl
        · rw [List.length_append, l2]; rfl
        · exact hD2.other oD.1 oD.2 _
        · intro b o n1 n2 e
          rw [upd_ne (ne_of_none e hDn)]
          exact k2 b o n1 n2 (k' b o n1 n2 e)
      · rintro H' ⟨vs, ds, hv, hdt, hgd, l1, l2, hD', k'⟩
        have kH' := kH.trans k'
        have hn3 : ds.length ≤ 3 := by omega
        have hsh : PyData.showableAll ds = true := showAll fun x hx => (hgd x hx).sh
        refine ⟨_, rfl, d, g, _, rfl, by decide, by decide, hD', fun r3 H10 r30 r3b hD10 k10 => ⟨rfl, _, rfl, ?_⟩⟩
        have hv10 : H10 D = some (.lst vs) := k10 D _ oD.1 oD.2 hv
        have hdt10 : DtAll H10 (fun a => Off d g H a ∧ a ≠ D) vs ds := hdt.mono (fun a o sa e => k10 a o sa.1.1.1 sa.1.1.2 e) (fun _ _ e _ => e)
        have hH : H D = none := kH.free oD.1 oD.2 hDn
        refine ite2 (fun _ => ?_) (fun _ => ?_)
        · refine ⟨_, rfl, D, _, rfl, .inl ⟨SqL.of hv10, fun t ht => ?_⟩⟩
          have ot := hD10.dn ht
          refine q _ (.tuple ds) _ (.tup upd_same ⟨ot, ?_⟩ (hdt10.mono (fun a o sa e => ?_) (fun _ _ e _ => e.1))) (good_tup hk hgd hn3) (hD10.same (same_new ht _)) ((kH'.trans k10).trans (.of (same_new ht _)))
          · exact (kH'.trans k10).free ot.1 ot.2 ht
          · rw [upd_ne (ne_of_none e ht)]
            exact e
        · exact ⟨_, rfl, q _ (.list ds) H10 (.lst hv10 ⟨oD, hH⟩ (hdt10.mono (fun _ _ _ e => e) (fun _ _ e _ => e.1))) (good_lst hk hgd hn3) hD10 (kH'.trans k10)⟩
    · exact ⟨_, rfl, _, rfl, last H8 hD8 k8⟩
  · exact ⟨_, rfl, _, rfl, last H7 hD7 (Keeps.refl d g H7)⟩
end
end Vf

set_option Elab.async false
set_option linter.all false
set_option maxRecDepth 100000
set_option maxHeartbeats 4000000
namespace Vf
open PySem PySem.Spec PyProof.Rows L2 L2.Vx
abbrev sMade : Stmt := top 18
abbrev sBorne : Stmt := top 19
abbrev sSorts : Stmt := top 20
abbrev sSound : Stmt := top 21
abbrev sCaught : Stmt := top 22
def attrOf (i : Nat) : Str := (["part", "line", "value", "value", "place", "paper", "pair", "name"] : List Str).getD i ""
structure TxtE (P : Program) (w : World) (K : PySem.W.Frag) (mg : Str → Option Value) (base : Heap) (C : Nat → Addr) (CP : Addr) : Prop where
  e0 : ExK P w K mg base (C 0) "part" 1
  e1 : ExK P w K mg base (C 1) "line" 1
  e2 : ExK P w K mg base (C 2) "value" 1
  e3 : ExK P w K mg base (C 3) "value" 1
  e4 : ExK P w K mg base (C 4) "place" 1
  e5 : ExK P w K mg base (C 5) "paper" 1
  e6 : ExK P w K mg base (C 6) "pair" 1
  e7 : ExK P w K mg base (C 7) "name" 1
  n8 : Ex0 K (C 8)
  n9 : Ex0 K (C 9)
  n10 : Ex0 K (C 10)
  ex : ∀ i, i < 11 → OexE K (C i)
  g0 : mg "BadLanguage" = some (.ref (C 0))
  g1 : mg "BadLine" = some (.ref (C 1))
  g2 : mg "BadText" = some (.ref (C 2))
  g3 : mg "BadView" = some (.ref (C 3))
  g4 : mg "BadPlace" = some (.ref (C 4))
  g5 : mg "NoJudge" = some (.ref (C 5))
  g6 : mg "Unjudged" = some (.ref (C 6))
  g7 : mg "NoLanguage" = some (.ref (C 7))
  g8 : mg "OtherLetters" = some (.ref (C 8))
  g9 : mg "NothingToUndo" = some (.ref (C 9))
  g10 : mg "InvalidCommand" = some (.ref (C 10))
  gP : mg "PieceError" = some (.ref CP)
  kC : ∀ i j, i < 11 → j < 11 → PySem.W.kitOne K (.ref (C i)) (.ref (C j)) = some (decide (i = j))
  kP : ∀ i, i < 11 → PySem.W.kitOne K (.ref (C i)) (.ref CP) = some true
  kB : ∀ i, i < 11 → ∀ n ∈ ["ValueError", "TypeError", "LookupError", "ArithmeticError", "RuntimeError"], PySem.W.kitOne K (.ref (C i)) (.type n) = some false
  xm : ∀ i, i < 11 → PySem.W.exmOne K (.ref (C i)) (.ref CP) = some true
  isi : mg "isinstance" = none
  bV : mg "ValueError" = none
  bT : mg "TypeError" = none
  bL : mg "LookupError" = none
  bA : mg "ArithmeticError" = none
  bR : mg "RuntimeError" = none
  rng : mg "range" = none
/-- an error of the i-th class that bears v stands at a -/
def ErrAt (C : Nat → Addr) (H : Hp) (a : Addr) (i : Nat) (v : V) : Prop := ∃ d, H a = some (exo a (C i) (some d)) ∧ H d = some (exd d [(attrOf i, v)])
theorem ErrAt.same {C : Nat → Addr} {H H' : Hp} {a : Addr} {i : Nat} {v : V} (h : ErrAt C H a i v) (s : Same H H') : ErrAt C H' a i v := by
  obtain ⟨d, h1, h2⟩ := h
  exact ⟨d, s _ _ h1, s _ _ h2⟩
/-- the errors, each class twice -/
def ErrsAt (C : Nat → Addr) (H : Hp) (v : V) : Nat → List V → Prop
  | _, [] => True
  | i, x :: r => (∃ a, x = .ref a ∧ ErrAt C H a (i / 2) v) ∧ ErrsAt C H v (i + 1) r
theorem ErrsAt.get {C : Nat → Addr} {H : Hp} {v : V} : ∀ {xs : List V} {i j : Nat} {x : V}, ErrsAt C H v i xs → xs[j]? = some x → ∃ a, x = .ref a ∧ ErrAt C H a ((i + j) / 2) v
  | [], _, _, _, _, e => by simp at e
  | y :: r, i, 0, x, h, e => by
    obtain ⟨a, q, z⟩ := h.1
    have e' : y = x := Option.some.inj e
    exact ⟨a, e' ▸ q, z⟩
  | y :: r, i, j + 1, x, h, e => by
    have q := ErrsAt.get (j := j) h.2 e
    rw [show i + (j + 1) = i + 1 + j by omega]
    exact q
theorem ErrsAt.same {C : Nat → Addr} {H H' : Hp} {v : V} (s : Same H H') : ∀ {xs : List V} {i : Nat}, ErrsAt C H v i xs → ErrsAt C H' v i xs
  | [], _, _ => trivial
  | y :: r, i, h => by
    obtain ⟨⟨a, q, z⟩, t⟩ := h
    exact ⟨⟨a, q, z.same s⟩, ErrsAt.same s t⟩
def spMade (C : Nat → Addr) : Sp := fun vs H Q _ => ∃ v : V, vs = [v] ∧ ∀ (l : Addr) (xs : List V) (H' : Hp), Same H H' → H' l = some (.lst xs) → xs.length = 16 → ErrsAt C H' v 0 xs → Q (.ref l) H'
section
variable {P : Program} {w : World} {K : PySem.W.Frag} {mg : Str → Option Value} {base : Heap} {C : Nat → Addr} {CP : Addr}
theorem scMade : FnScope ["_law_it", "_law_found"] ["_law_it"] (defScope sMade) := ⟨rfl, rfl, rfl, by decide +kernel, rfl, by decide +kernel, by decide +kernel⟩
theorem ok_made {f : Addr} {fd : FuncData} (F : Fun K "_law_made" "_law_made" sMade f fd) (T : TxtE P w K mg base C CP) : FnOk P w K mg base CX0 3 f fd ["_law_it"] (spMade C) := by
  refine F.ok scMade (fun vs H Q E h => ?_) (fun cdv A outer s H vs Q E hr h => ?_)
  · obtain ⟨v, rfl, _⟩ := h
    rfl
  obtain ⟨v, rfl, q⟩ := h
  refine ⟨_, pss_cons (ps_set (i := 1) scMade.nd rfl (Or.inl rfl) (pe_lst (pa_cons (pe_exE T.e0 hr T.g0 (pv 0)) (pa_cons (pe_exK T.e0 hr T.g0 (pv 0)) (pa_cons (pe_exE T.e1 hr T.g1 (pv 0)) (pa_cons (pe_exK T.e1 hr T.g1 (pv 0)) (pa_cons (pe_exE T.e2 hr T.g2 (pv 0)) (pa_cons (pe_exK T.e2 hr T.g2 (pv 0)) pa_nil))))))))
    (pss_cons (ps_set (i := 1) scMade.nd rfl (Or.inl rfl) (pe_op op_cat (pv 1) (pe_lst (pa_cons (pe_exE T.e3 hr T.g3 (pv 0)) (pa_cons (pe_exK T.e3 hr T.g3 (pv 0)) (pa_cons (pe_exE T.e4 hr T.g4 (pv 0)) (pa_cons (pe_exK T.e4 hr T.g4 (pv 0)) (pa_cons (pe_exE T.e5 hr T.g5 (pv 0)) (pa_cons (pe_exK T.e5 hr T.g5 (pv 0)) pa_nil)))))))))
    (pss_one (ps_ret (pe_op op_cat (pv 1) (pe_lst (pa_cons (pe_exE T.e6 hr T.g6 (pv 0)) (pa_cons (pe_exK T.e6 hr T.g6 (pv 0)) (pa_cons (pe_exE T.e7 hr T.g7 (pv 0)) (pa_cons (pe_exK T.e7 hr T.g7 (pv 0)) pa_nil))))))))), ?_⟩
  refine ⟨_, rfl, fun a0 d0 H0 _ _ _ s0 x0 y0 => ?_⟩
  refine ⟨_, rfl, fun a1 d1 H1 _ _ _ s1 x1 y1 => ?_⟩
  refine ⟨_, rfl, fun a2 d2 H2 _ _ _ s2 x2 y2 => ?_⟩
  refine ⟨_, rfl, fun a3 d3 H3 _ _ _ s3 x3 y3 => ?_⟩
  refine ⟨_, rfl, fun a4 d4 H4 _ _ _ s4 x4 y4 => ?_⟩
  refine ⟨_, rfl, fun a5 d5 H5 _ _ _ s5 x5 y5 => ?_⟩
  refine ⟨(by show 6 ≤ sizeLine; decide), fun l1 hl1 => ?_⟩
  refine ⟨_, rfl, ?_⟩
  refine ⟨_, rfl, fun a6 d6 H6 _ _ _ s6 x6 y6 => ?_⟩
  refine ⟨_, rfl, fun a7 d7 H7 _ _ _ s7 x7 y7 => ?_⟩
  refine ⟨_, rfl, fun a8 d8 H8 _ _ _ s8 x8 y8 => ?_⟩
  refine ⟨_, rfl, fun a9 d9 H9 _ _ _ s9 x9 y9 => ?_⟩
  refine ⟨_, rfl, fun a10 d10 H10 _ _ _ s10 x10 y10 => ?_⟩
  refine ⟨_, rfl, fun a11 d11 H11 _ _ _ s11 x11 y11 => ?_⟩
  refine ⟨(by show 6 ≤ sizeLine; decide), fun l2 hl2 => ?_⟩
  have t2 : H11 l1 = some (.lst [.ref a0, .ref a1, .ref a2, .ref a3, .ref a4, .ref a5]) := s11 _ _ (s10 _ _ (s9 _ _ (s8 _ _ (s7 _ _ (s6 _ _ upd_same)))))
  refine ⟨l1, l2, _, _, rfl, rfl, same_new hl2 _ _ _ t2, upd_same, (by show 6 + 6 ≤ sizeLine; decide), fun l3 hl3 => ?_⟩
  refine ⟨_, rfl, ?_⟩
  refine ⟨_, rfl, fun a12 d12 H12 _ _ _ s12 x12 y12 => ?_⟩
  refine ⟨_, rfl, fun a13 d13 H13 _ _ _ s13 x13 y13 => ?_⟩
  refine ⟨_, rfl, fun a14 d14 H14 _ _ _ s14 x14 y14 => ?_⟩
  refine ⟨_, rfl, fun a15 d15 H15 _ _ _ s15 x15 y15 => ?_⟩
  refine ⟨(by show 4 ≤ sizeLine; decide), fun l4 hl4 => ?_⟩
  have t4 : H15 l3 = some (.lst ([.ref a0, .ref a1, .ref a2, .ref a3, .ref a4, .ref a5] ++ [.ref a6, .ref a7, .ref a8, .ref a9, .ref a10, .ref a11])) := s15 _ _ (s14 _ _ (s13 _ _ (s12 _ _ upd_same)))
  refine ⟨l3, l4, _, _, rfl, rfl, same_new hl4 _ _ _ t4, upd_same, (by show 12 + 4 ≤ sizeLine; decide), fun l5 hl5 => ?_⟩
  have u15 : Same H15 _ := (same_new hl4 _).trans (same_new hl5 (.lst (([.ref a0, .ref a1, .ref a2, .ref a3, .ref a4, .ref a5] ++ [.ref a6, .ref a7, .ref a8, .ref a9, .ref a10, .ref a11]) ++ [.ref a12, .ref a13, .ref a14, .ref a15])))
  have u14 : Same H14 _ := s15.trans u15
  have u13 : Same H13 _ := s14.trans u14
  have u12 : Same H12 _ := s13.trans u13
  have u11 : Same H11 _ := (((same_new hl2 _).trans (same_new hl3 _)).trans s12).trans u12
  have u10 : Same H10 _ := s11.trans u11
  have u9 : Same H9 _ := s10.trans u10
  have u8 : Same H8 _ := s9.trans u9
  have u7 : Same H7 _ := s8.trans u8
  have u6 : Same H6 _ := s7.trans u7
  have u5 : Same H5 _ := ((same_new hl1 _).trans s6).trans u6
  have u4 : Same H4 _ := s5.trans u5
  have u3 : Same H3 _ := s4.trans u4
  have u2 : Same H2 _ := s3.trans u3
  have u1 : Same H1 _ := s2.trans u2
  have u0 : Same H0 _ := s1.trans u1
  refine q l5 _ _ (s0.trans u0) upd_same rfl ?_
  exact ⟨⟨a0, rfl, d0, u0 _ _ x0, u0 _ _ y0⟩, ⟨a1, rfl, d1, u1 _ _ x1, u1 _ _ y1⟩, ⟨a2, rfl, d2, u2 _ _ x2, u2 _ _ y2⟩, ⟨a3, rfl, d3, u3 _ _ x3, u3 _ _ y3⟩, ⟨a4, rfl, d4, u4 _ _ x4, u4 _ _ y4⟩, ⟨a5, rfl, d5, u5 _ _ x5, u5 _ _ y5⟩, ⟨a6, rfl, d6, u6 _ _ x6, u6 _ _ y6⟩, ⟨a7, rfl, d7, u7 _ _ x7, u7 _ _ y7⟩, ⟨a8, rfl, d8, u8 _ _ x8, u8 _ _ y8⟩, ⟨a9, rfl, d9, u9 _ _ x9, u9 _ _ y9⟩, ⟨a10, rfl, d10, u10 _ _ x10, u10 _ _ y10⟩, ⟨a11, rfl, d11, u11 _ _ x11, u11 _ _ y11⟩, ⟨a12, rfl, d12, u12 _ _ x12, u12 _ _ y12⟩, ⟨a13, rfl, d13, u13 _ _ x13, u13 _ _ y13⟩, ⟨a14, rfl, d14, u14 _ _ x14, u14 _ _ y14⟩, ⟨a15, rfl, d15, u15 _ _ x15, u15 _ _ y15⟩, trivial⟩
end
end Vf

set_option Elab.async false
set_option linter.all false
set_option maxRecDepth 100000
set_option maxHeartbeats 4000000
namespace Vf
open PySem PySem.Spec PyProof.Rows L2 L2.Vx
section
variable {P : Program} {w : World} {K : PySem.W.Frag} {mg : Str → Option Value} {base : Heap} {C : Nat → Addr} {CP : Addr}
/-! ### what an error bears -/
def spBorne (C : Nat → Addr) : Sp := fun vs H Q _ => ∃ (i : Nat) (a : Addr) (v : V), vs = [.int i, .ref a] ∧ i < 8 ∧ ErrAt C H a i v ∧ Q v H
theorem scBorne : FnScope ["_law_number", "_law_error"] ["_law_number", "_law_error"] (defScope sBorne) := ⟨rfl, rfl, rfl, by decide +kernel, rfl, by decide +kernel, by decide +kernel⟩
theorem look1 (f : Str) (v : V) : List.lookup f [(f, v)] = some v := by simp [List.lookup]
theorem it_ {A B : Prop} {c : Bool} (e : c = true) (h : A) : if c = true then A else B := by
  rw [if_pos e]
  exact h
theorem if_ {A B : Prop} {c : Bool} (e : c = false) (h : B) : if c = true then A else B := by
  rw [e]
  exact iteF h
theorem ok_borne {f : Addr} {fd : FuncData} (F : Fun K "_law_borne" "_law_borne" sBorne f fd) (T : TxtE P w K mg base C CP) : FnOk P w K mg base CX0 1 f fd ["_law_number", "_law_error"] (spBorne C) := by
  refine F.ok scBorne (fun vs H Q E h => ?_) (fun cdv A outer s H vs Q E hr h => ?_)
  · obtain ⟨i, a, v, rfl, _⟩ := h
    rfl
  obtain ⟨i, a, v, rfl, hi, ⟨d, ha, hd⟩, q⟩ := h
  refine ⟨_, pss_cons (ps_if (pt_cmpR op_lt (pv 0) pe_int (nomark _)) (pss_one (ps_ret (pe_ifExp (pt_cmpR op_eq (pv 0) pe_int (nomark _)) (pe_atE (pv 1)) (pe_atE (pv 1))))) pss_nil)
    (pss_cons (ps_if (pt_cmpR op_lt (pv 0) pe_int (nomark _)) (pss_one (ps_ret (pe_atE (pv 1)))) pss_nil)
    (pss_cons (ps_if (pt_cmpR op_lt (pv 0) pe_int (nomark _)) (pss_one (ps_ret (pe_ifExp (pt_cmpR op_eq (pv 0) pe_int (nomark _)) (pe_atE (pv 1)) (pe_atE (pv 1))))) pss_nil)
    (pss_one (ps_ret (pe_ifExp (pt_cmpR op_eq (pv 0) pe_int (nomark _)) (pe_atE (pv 1)) (pe_atE (pv 1))))))), ?_⟩
  match i, hi with
  | 0, _ => exact ⟨_, rfl, _, _, rfl, rfl, _, rfl, it_ (by decide) ⟨_, rfl, rfl, _, rfl, it_ (by decide) ⟨_, rfl, a, C 0, d, _, v, rfl, T.ex 0 (by decide), T.e0.no, ha, hd, look1 _ _, q⟩⟩⟩
  | 1, _ => exact ⟨_, rfl, _, _, rfl, rfl, _, rfl, it_ (by decide) ⟨_, rfl, rfl, _, rfl, if_ (by decide) ⟨_, rfl, a, C 1, d, _, v, rfl, T.ex 1 (by decide), T.e1.no, ha, hd, look1 _ _, q⟩⟩⟩
  | 2, _ => exact ⟨_, rfl, _, _, rfl, rfl, _, rfl, if_ (by decide) ⟨_, rfl, _, _, rfl, rfl, _, rfl, it_ (by decide) ⟨_, rfl, a, C 2, d, _, v, rfl, T.ex 2 (by decide), T.e2.no, ha, hd, look1 _ _, q⟩⟩⟩
  | 3, _ => exact ⟨_, rfl, _, _, rfl, rfl, _, rfl, if_ (by decide) ⟨_, rfl, _, _, rfl, rfl, _, rfl, it_ (by decide) ⟨_, rfl, a, C 3, d, _, v, rfl, T.ex 3 (by decide), T.e3.no, ha, hd, look1 _ _, q⟩⟩⟩
  | 4, _ => exact ⟨_, rfl, _, _, rfl, rfl, _, rfl, if_ (by decide) ⟨_, rfl, _, _, rfl, rfl, _, rfl, if_ (by decide) ⟨_, rfl, _, _, rfl, rfl, _, rfl, it_ (by decide) ⟨_, rfl, rfl, _, rfl, it_ (by decide) ⟨_, rfl, a, C 4, d, _, v, rfl, T.ex 4 (by decide), T.e4.no, ha, hd, look1 _ _, q⟩⟩⟩⟩⟩
  | 5, _ => exact ⟨_, rfl, _, _, rfl, rfl, _, rfl, if_ (by decide) ⟨_, rfl, _, _, rfl, rfl, _, rfl, if_ (by decide) ⟨_, rfl, _, _, rfl, rfl, _, rfl, it_ (by decide) ⟨_, rfl, rfl, _, rfl, if_ (by decide) ⟨_, rfl, a, C 5, d, _, v, rfl, T.ex 5 (by decide), T.e5.no, ha, hd, look1 _ _, q⟩⟩⟩⟩⟩
  | 6, _ => exact ⟨_, rfl, _, _, rfl, rfl, _, rfl, if_ (by decide) ⟨_, rfl, _, _, rfl, rfl, _, rfl, if_ (by decide) ⟨_, rfl, _, _, rfl, rfl, _, rfl, if_ (by decide) ⟨_, rfl, rfl, _, rfl, it_ (by decide) ⟨_, rfl, a, C 6, d, _, v, rfl, T.ex 6 (by decide), T.e6.no, ha, hd, look1 _ _, q⟩⟩⟩⟩⟩
  | 7, _ => exact ⟨_, rfl, _, _, rfl, rfl, _, rfl, if_ (by decide) ⟨_, rfl, _, _, rfl, rfl, _, rfl, if_ (by decide) ⟨_, rfl, _, _, rfl, rfl, _, rfl, if_ (by decide) ⟨_, rfl, rfl, _, rfl, if_ (by decide) ⟨_, rfl, a, C 7, d, _, v, rfl, T.ex 7 (by decide), T.e7.no, ha, hd, look1 _ _, q⟩⟩⟩⟩⟩
/-! ### of which classes an error is -/
theorem scSorts : FnScope ["_law_error", "_law_found"] ["_law_error"] (defScope sSorts) := ⟨rfl, rfl, rfl, by decide +kernel, rfl, by decide +kernel, by decide +kernel⟩
def sortsOf (i : Nat) : List Bool := (List.range 11).map fun j => decide (i = j)
/-- a new list of bools -/
def NewBools (bs : List Bool) (H : Hp) (Q : VK) : Prop := ∀ (l : Addr) (H' : Hp), Same H H' → H' l = some (.lst (bs.map V.bl)) → Q (.ref l) H'
theorem body_sorts {f : Addr} {cdv : Value} {A : Around} {outer : List Env} {s : Shared} {H : Hp} {E : XK} (T : TxtE P w K mg base C CP) (c : Bool) (pn : List (Addr × Obj)) {r : List V → Hp → VK → Prop}
    (hisi : CallR ({ cxOf CX0 P w K mg base ["_law_error", "_law_found"] "_law_sorts" (defScope sSorts) f cdv A outer s H E with calm := c, pn := pn } : Cx).nox (.builtin "isinstance") r) :
    ∃ t, PSs ({ cxOf CX0 P w K mg base ["_law_error", "_law_found"] "_law_sorts" (defScope sSorts) f cdv A outer s H E with calm := c, pn := pn } : Cx).nox (defBody sSorts) t ∧
      ∀ (a : Addr) (i : Nat) (H0 : Hp) (Q : VK), (∀ (j : Nat) (H1 : Hp) (Q1 : VK), j < 11 → Same H0 H1 → Q1 (.bl (decide (i = j))) H1 → r [.ref a, .ref (C j)] H1 Q1) → NewBools (sortsOf i) H0 Q →
        t { nx := fun _ H' => Q .non H', rt := Q } (start ["_law_error", "_law_found"] [.ref a]) H0 := by
  refine ⟨_, pss_cons (ps_set (i := 1) scSorts.nd rfl (Or.inl rfl) (pe_lst (pa_cons (pe_callB hisi (by rfl) T.isi (by decide +kernel) (pa_cons (pv 0) (pa_cons (pe_glob (v := .ref (C 0)) rfl T.g0 rfl) pa_nil))) (pa_cons (pe_callB hisi (by rfl) T.isi (by decide +kernel) (pa_cons (pv 0) (pa_cons (pe_glob (v := .ref (C 1)) rfl T.g1 rfl) pa_nil))) (pa_cons (pe_callB hisi (by rfl) T.isi (by decide +kernel) (pa_cons (pv 0) (pa_cons (pe_glob (v := .ref (C 2)) rfl T.g2 rfl) pa_nil))) pa_nil)))))
    (pss_cons (ps_set (i := 1) scSorts.nd rfl (Or.inl rfl) (pe_op op_cat (pv 1) (pe_lst (pa_cons (pe_callB hisi (by rfl) T.isi (by decide +kernel) (pa_cons (pv 0) (pa_cons (pe_glob (v := .ref (C 3)) rfl T.g3 rfl) pa_nil))) (pa_cons (pe_callB hisi (by rfl) T.isi (by decide +kernel) (pa_cons (pv 0) (pa_cons (pe_glob (v := .ref (C 4)) rfl T.g4 rfl) pa_nil))) (pa_cons (pe_callB hisi (by rfl) T.isi (by decide +kernel) (pa_cons (pv 0) (pa_cons (pe_glob (v := .ref (C 5)) rfl T.g5 rfl) pa_nil))) pa_nil))))))
    (pss_cons (ps_set (i := 1) scSorts.nd rfl (Or.inl rfl) (pe_op op_cat (pv 1) (pe_lst (pa_cons (pe_callB hisi (by rfl) T.isi (by decide +kernel) (pa_cons (pv 0) (pa_cons (pe_glob (v := .ref (C 6)) rfl T.g6 rfl) pa_nil))) (pa_cons (pe_callB hisi (by rfl) T.isi (by decide +kernel) (pa_cons (pv 0) (pa_cons (pe_glob (v := .ref (C 7)) rfl T.g7 rfl) pa_nil))) (pa_cons (pe_callB hisi (by rfl) T.isi (by decide +kernel) (pa_cons (pv 0) (pa_cons (pe_glob (v := .ref (C 8)) rfl T.g8 rfl) pa_nil))) pa_nil))))))
    (pss_one (ps_ret (pe_op op_cat (pv 1) (pe_lst (pa_cons (pe_callB hisi (by rfl) T.isi (by decide +kernel) (pa_cons (pv 0) (pa_cons (pe_glob (v := .ref (C 9)) rfl T.g9 rfl) pa_nil))) (pa_cons (pe_callB hisi (by rfl) T.isi (by decide +kernel) (pa_cons (pv 0) (pa_cons (pe_glob (v := .ref (C 10)) rfl T.g10 rfl) pa_nil))) pa_nil)))))))), fun a i H0 Q hq k => ?_⟩
  have S0 : Same H0 H0 := .refl _
  refine ⟨_, rfl, hq 0 _ _ (by decide) S0 ?_⟩
  refine ⟨_, rfl, hq 1 _ _ (by decide) S0 ?_⟩
  refine ⟨_, rfl, hq 2 _ _ (by decide) S0 ?_⟩
  refine ⟨(by show 3 ≤ sizeLine; decide), fun l1 h1 => ?_⟩
  have S1 : Same H0 _ := S0.trans (same_new h1 (.lst [.bl (decide (i = 0)), .bl (decide (i = 1)), .bl (decide (i = 2))]))
  have E1 := upd_same (H := H0) (a := l1) (o := .lst [.bl (decide (i = 0)), .bl (decide (i = 1)), .bl (decide (i = 2))])
  refine ⟨_, rfl, ?_⟩
  refine ⟨_, rfl, hq 3 _ _ (by decide) S1 ?_⟩
  refine ⟨_, rfl, hq 4 _ _ (by decide) S1 ?_⟩
  refine ⟨_, rfl, hq 5 _ _ (by decide) S1 ?_⟩
  refine ⟨(by show 3 ≤ sizeLine; decide), fun l2 h2 => ?_⟩
  refine ⟨l1, l2, _, _, rfl, rfl, same_new h2 _ _ _ E1, upd_same, (by show 3 + 3 ≤ sizeLine; decide), fun l3 h3 => ?_⟩
  have S3 : Same H0 _ := (S1.trans (same_new h2 (.lst [.bl (decide (i = 3)), .bl (decide (i = 4)), .bl (decide (i = 5))]))).trans (same_new h3 (.lst ([.bl (decide (i = 0)), .bl (decide (i = 1)), .bl (decide (i = 2))] ++ [.bl (decide (i = 3)), .bl (decide (i = 4)), .bl (decide (i = 5))])))
  have E3 := upd_same (H := upd (upd H0 l1 (.lst [.bl (decide (i = 0)), .bl (decide (i = 1)), .bl (decide (i = 2))])) l2 (.lst [.bl (decide (i = 3)), .bl (decide (i = 4)), .bl (decide (i = 5))])) (a := l3) (o := .lst ([.bl (decide (i = 0)), .bl (decide (i = 1)), .bl (decide (i = 2))] ++ [.bl (decide (i = 3)), .bl (decide (i = 4)), .bl (decide (i = 5))]))
  refine ⟨_, rfl, ?_⟩
  refine ⟨_, rfl, hq 6 _ _ (by decide) S3 ?_⟩
  refine ⟨_, rfl, hq 7 _ _ (by decide) S3 ?_⟩
  refine ⟨_, rfl, hq 8 _ _ (by decide) S3 ?_⟩
  refine ⟨(by show 3 ≤ sizeLine; decide), fun l4 h4 => ?_⟩
  refine ⟨l3, l4, _, _, rfl, rfl, same_new h4 _ _ _ E3, upd_same, (by show 6 + 3 ≤ sizeLine; decide), fun l5 h5 => ?_⟩
  have S5 := (S3.trans (same_new h4 (.lst [.bl (decide (i = 6)), .bl (decide (i = 7)), .bl (decide (i = 8))]))).trans (same_new h5 (.lst (([.bl (decide (i = 0)), .bl (decide (i = 1)), .bl (decide (i = 2))] ++ [.bl (decide (i = 3)), .bl (decide (i = 4)), .bl (decide (i = 5))]) ++ [.bl (decide (i = 6)), .bl (decide (i = 7)), .bl (decide (i = 8))])))
  refine ⟨_, rfl, ?_⟩
  refine ⟨_, rfl, hq 9 _ _ (by decide) S5 ?_⟩
  refine ⟨_, rfl, hq 10 _ _ (by decide) S5 ?_⟩
  refine ⟨(by show 2 ≤ sizeLine; decide), fun l6 h6 => ?_⟩
  refine ⟨l5, l6, _, _, rfl, rfl, same_new h6 _ _ _ upd_same, upd_same, (by show 9 + 2 ≤ sizeLine; decide), fun l7 h7 => ?_⟩
  exact k l7 _ ((S5.trans (same_new h6 (.lst [.bl (decide (i = 9)), .bl (decide (i = 10))]))).trans (same_new h7 _)) upd_same
end
end Vf

set_option Elab.async false
set_option linter.all false
set_option maxRecDepth 100000
set_option maxHeartbeats 4000000
namespace L2
namespace Vx
open PySem PySem.Spec PyProof.Rows L2H
/-- a def that is called with the exception that an except suite holds (p) as its one argument -/
structure FnP (P : Program) (w : World) (K : PySem.W.Frag) (mg : Str → Option Value) (base : Heap) (k : Nat) (f : Addr) (fd : FuncData) (x : Str) (sp : Value → V → Hp → VK → Prop) : Prop where
  run : ∀ (A : Around) (outer : List Env) (s : Shared) (H : Hp) (args : Args) (Q : VK) (p : Addr × Obj) (cls : Value), RoomH k A → PinOk outer H s p → Zc cls none p.2 → (∃ vs, p.2.data = .fields vs) → Env0 P w K mg base A outer s H → BindsTo s fd args [(x, .ref p.1)] → sp cls (.ref p.1) H Q →
    codeAny (model P w) A (.call (.ref f) args) (CR CX0 outer P w H s Q E0) s
theorem FunP {P : Program} {w : World} {K : PySem.W.Frag} {mg : Str → Option Value} {base : Heap} {qual y : Str} {st : Stmt} {f : Addr} {fd : FuncData} {N : List Str} {x : Str} {k : Nat} {sp : Value → V → Hp → VK → Prop} (F : Fun K y qual st f fd) (S : FnScope N [x] (defScope st))
    (hbody : ∀ (cdv : Value) (A : Around) (outer : List Env) (s : Shared) (H : Hp) (Q : VK) (p : Addr × Obj) (cls : Value), RoomH k (A.deeper (envOfC qual (defScope st) s.heap.objs.size f cdv)) → Zc cls none p.2 → (∃ vs, p.2.data = .fields vs) → sp cls (.ref p.1) H Q →
      ∃ t, PSs (cxH CX0 P w K mg base N qual (defScope st) f cdv A outer s H E0 p).nox (defBody st) t ∧ t { nx := fun _ H' => Q .non H', rt := Q } (start N [.ref p.1]) H) : FnP P w K mg base (k + 1) f fd x sp := by
  obtain ⟨oc, od, kV, doc, pm, an, cdv, ct, osl, rfl, lk, hcd⟩ := F.ex
  refine ⟨fun A outer s H args Q p cls hr hpin hz hf e0 hb hsp => ?_⟩
  obtain ⟨t, ht0, hq⟩ := hbody cdv A outer s H Q p cls (hr.deeper _) hz hf hsp
  have ht := ht0.nox
  have KX : K.In s.heap := e0.mod.kin.keeps fun b o e => (e0.bs b o e).1
  have lim : s.heap.NoLimit := e0.mod.nolimit.keeps fun b o e => (e0.bs b o e).1
  have hkind : ∀ y ∈ [x].zip [Value.ref p.1], (defScope st).names.lookup y.1 = some .local ∨ ((defScope st).names.lookup y.1 = some .cell ∧ ((cellsFrom (s.heap.objs.size + 1) (defScope st).names []).lookup y.1).isSome = true) := by
    rintro ⟨n, v⟩ hy
    rcases S.par n (List.of_mem_zip hy).1 with q | q
    · exact .inl q
    · exact .inr ⟨q, PySem.W.cellsFrom_some _ _ _ (.inl q)⟩
  refine codeAny_call_function hr.depth (KX _ _ lk) rfl S.co S.gen rfl (PySem.W.codeRec_of KX hcd) (hb _ _ _ _ ?_)
  refine wpAny_newFunctionEnv_cells S.kind hkind fun env he s1 x1 => ?_
  subst he
  refine ⟨lim.keeps x1.toInCall.keep, codeAny_func ?_⟩
  have I := inv_startH (CX := CX0) (E := E0) (vs := [.ref p.1]) (us := [Value.ref p.1]) S hpin e0 rfl (.cons rfl .nil) x1
  refine wpAny_mono (ht.run [] s1 (start N [.ref p.1]) H _ I hq) (fun fl s' hs => ?_) fun e s' hs => hs
  cases fl with
  | ret u =>
    obtain ⟨v, σ', H', J, rv, q⟩ := hs
    exact ⟨v, H', J.os, J.bare, J.base, J.hok, rv, q⟩
  | next =>
    obtain ⟨σ', H', J, q⟩ := hs
    exact ⟨V.non, H', J.os, J.bare, J.base, J.hok, rfl, q⟩
  | brk => obtain ⟨_, _, _, q⟩ := hs; exact q.elim
  | cont => obtain ⟨_, _, _, q⟩ := hs; exact q.elim
section
variable {X : Cx} {f : Addr} {fd : FuncData} {k : Nat} {y z : Str} {sp : Value → V → Hp → VK → Prop} {a : Addr} {oe : Obj} {cls : Value} {d : Option Addr} {pn : List (Addr × Obj)} {e : Expr} {te : TE} {q pos : Pos}
/-- f(e) in an except suite, e the exception that it holds -/
def tPin (sp : Value → V → Hp → VK → Prop) (a : Addr) (cls : Value) (d : Option Addr) (te : TE) : TE := fun σ H Q => te σ H fun x H1 => x = .ref a ∧ d = none ∧ sp cls (.ref a) H1 Q
theorem pe_pin (F : FnP X.prog X.w X.K X.mg X.base k f fd z sp) (hr : RoomH k (X.suite a ((a, oe) :: pn)).A) (hz : Zc cls d oe) (hf : ∃ vs, oe.data = .fields vs) (hm : X.mg y = some (.ref f)) (hk : PySem.W.keepIn X.K (.ref f) = true)
    (hb : ∀ (s : Shared) (u : Value), BindsTo s fd ⟨[u], []⟩ [(z, u)]) (he : PE (X.suite a ((a, oe) :: pn)) e te) (hg : Gl (X.suite a ((a, oe) :: pn)) y := by rfl) (hdb : (y == ("__debug__" : Str)) = false := by decide)
    (hs : starEach [e] X.env = (false, eval e X.env) :: starEach [] X.env := by rfl) (hpl : (backTo pos (starEach [] X.env)).any (·.1) = false := by rfl) :
    PE (X.suite a ((a, oe) :: pn)) (.Call (.Name y q) [e] [] pos) (tPin sp a cls d te) := by
  refine ⟨fun pins s σ H Q I h => ?_⟩
  refine wpAny_Call_Name_kw (ld_glob I hg hm ?_ hdb)
  refine PySem.W.callWith_K (h₀ := X.base) I.ok.mod.kin hk ?_ hs hpl
  rw [hs]
  show wpAny _ _ (spliced ((false, eval e X.env) :: backTo pos (starEach [] X.env))) _ _ s
  refine Calls.spliced_cons (thn (he.run pins s σ H _ I h) fun u s1 ⟨x, H1, I1, r1, ex, ed, q1⟩ => ?_)
  refine Calls.spliced_nil ⟨I1.kIn, ?_⟩
  subst ex ed
  obtain rfl : u = Value.ref a := r1
  show wpAny _ _ (call (.ref f) [.ref a] []) _ _ _
  have P1 := I1.pin (a, oe) (List.mem_append_left _ List.mem_cons_self)
  have hpin : PinOk X.stack H1 s1 (a, oe) := ⟨P1.1, P1.2.1, fun hm => (List.mem_cons.mp (I1.stkSub a hm)).elim P1.2.2.1 P1.2.2.2.1, P1.2.2.2.2⟩
  refine wpAny_call (codeAny_mono (F.run _ X.stack s1 H1 ⟨[.ref a], []⟩ Q (a, oe) cls hr hpin hz hf I1.env0 (hb s1 _) q1) fun r s' hq => ?_)
  cases r with
  | error e => exact hq.elim
  | ok fl =>
    cases fl with
    | ret u => exact I1.after hq
    | next => exact False.elim hq
    | brk => exact False.elim hq
    | cont => exact False.elim hq
end
end Vx
end L2

set_option Elab.async false
set_option linter.all false
set_option maxRecDepth 100000
set_option maxHeartbeats 4000000
namespace Vf
open PySem PySem.Spec PyProof.Rows L2 L2.Vx L2H
section
variable {P : Program} {w : World} {K : PySem.W.Frag} {mg : Str → Option Value} {base : Heap} {C : Nat → Addr} {CP : Addr}
/-- an error of the i-th class stands at a -/
def IsErr (C : Nat → Addr) (H : Hp) (a : Addr) (i : Nat) : Prop := ∃ dd, H a = some (exo a (C i) dd) ∧ ∀ d, dd = some d → ∃ fs, H d = some (exd d fs)
theorem IsErr.same {H H' : Hp} {a : Addr} {i : Nat} (h : IsErr C H a i) (s : Same H H') : IsErr C H' a i := by
  obtain ⟨dd, h1, h2⟩ := h
  exact ⟨dd, s _ _ h1, fun d e => (h2 d e).imp fun fs q => s _ _ q⟩
theorem ErrAt.is {H : Hp} {a : Addr} {i : Nat} {v : V} (h : ErrAt C H a i v) : IsErr C H a i := by
  obtain ⟨d, h1, h2⟩ := h
  exact ⟨some d, h1, fun d' e => by cases e; exact ⟨_, h2⟩⟩
def spSorts (C : Nat → Addr) : Sp := fun vs H Q _ => ∃ (a : Addr) (i : Nat), vs = [.ref a] ∧ i < 11 ∧ IsErr C H a i ∧ NewBools (sortsOf i) H Q
theorem ok_sorts {f : Addr} {fd : FuncData} (F : Fun K "_law_sorts" "_law_sorts" sSorts f fd) (T : TxtE P w K mg base C CP) : FnOk P w K mg base CX0 1 f fd ["_law_error"] (spSorts C) := by
  refine F.ok scSorts (fun vs H Q E h => ?_) (fun cdv A outer s H vs Q E hr h => ?_)
  · obtain ⟨a, i, rfl, _⟩ := h
    rfl
  obtain ⟨a, i, rfl, hi, he, k⟩ := h
  obtain ⟨t, ht, hq⟩ := body_sorts (f := f) (cdv := cdv) (A := A) (outer := outer) (s := s) (H := H) (E := E) T true [] call_isX
  refine ⟨t, ht, hq a i H Q (fun j H1 Q1 hj s1 q1 => ?_) k⟩
  obtain ⟨dd, e1, e2⟩ := he.same s1
  exact ⟨a, C i, dd, _, _, _, rfl, .own _, T.ex i hi, e1, e2, T.kC i j hi hj, q1⟩
def spPin (C : Nat → Addr) : Value → V → Hp → VK → Prop := fun cls _ H Q => ∃ i, i < 11 ∧ cls = .ref (C i) ∧ NewBools (sortsOf i) H Q
theorem pin_sorts {f : Addr} {fd : FuncData} (F : Fun K "_law_sorts" "_law_sorts" sSorts f fd) (T : TxtE P w K mg base C CP) : FnP P w K mg base 1 f fd "_law_error" (spPin C) := by
  refine FunP F scSorts (fun cdv A outer s H Q p cls hr hz hf h => ?_)
  obtain ⟨i, hi, rfl, k⟩ := h
  obtain ⟨t, ht, hq⟩ := body_sorts (f := f) (cdv := cdv) (A := A) (outer := outer) (s := s) (H := H) (E := E0) T false [p] (call_isP (T.ex i hi) List.mem_cons_self hz hf)
  exact ⟨t, ht, hq p.1 i H Q (fun j H1 Q1 hj s1 q1 => ⟨_, _, _, rfl, .own _, T.kC i j hi hj, q1⟩) k⟩
/-! ### [k == number for k in range(11)] -/
theorem dpAll_bools {H : Hp} : ∀ bs : List Bool, DpAll K H (bs.map V.bl) (bs.map .bool)
  | [] => .nil
  | b :: r => .cons (.bl b) (dpAll_bools r)
theorem canLay_bools : ∀ bs : List Bool, PyData.canLayAll0 (bs.map .bool) = true
  | [] => rfl
  | b :: r => by simp only [List.map, PyData.canLayAll0, PyData.canLay0, canLay_bools r, Bool.and_self]
theorem depth_bools : ∀ bs : List Bool, PyData.depthAll (bs.map .bool) = 0
  | [] => rfl
  | b :: r => by simp only [List.map, PyData.depthAll, PyData.depth, depth_bools r, Nat.max_self]
theorem shaped_bools (bs : List Bool) : SeqAt.shaped (.list (bs.map .bool)) = true := by
  simp [SeqAt.shaped, PyData.canLay0, canLay_bools, PyData.depth, depth_bools]
theorem eqv_bools : ∀ bs : List Bool, PyData.eqv (.list (bs.map .bool)) (.list (bs.map .bool)) = true := by
  have all : ∀ bs : List Bool, PyData.eqvAll (bs.map .bool) (bs.map .bool) = true := fun bs => by
    induction bs with
    | nil => rfl
    | cons b r ih => simp only [List.map_cons, PyData.eqvAll, PyData.eqv, ih, beq_self_eq_true, Bool.and_self]
  exact fun bs => all bs
theorem dec_int (j n : Nat) : decide (V.int (0 + (j : Int)) = V.int (n : Int)) = decide (n = j) := by
  by_cases e : n = j
  · rw [decide_eq_true e, e]
    exact decide_eq_true (by rw [Int.zero_add])
  · rw [decide_eq_false e]
    refine decide_eq_false fun z => e ?_
    have q := V.int.inj z
    omega
theorem range_more {i : Nat} {α : Type} (g : Nat → α) : (List.range (i + 1)).map g = (List.range i).map g ++ [g i] := by
  rw [List.range_succ, List.map_append]
  all_goals rfl
/-! ### an error is of its class alone -/
def spSound (C : Nat → Addr) : Sp := fun vs H Q _ => ∃ (a : Addr) (i : Nat), vs = [.ref a, .int i] ∧ i < 11 ∧ IsErr C H a i ∧ ∀ H', Same H H' → Q (.bl true) H'
theorem scSound : FnScope ["_law_error", "_law_number", "_law_usual", "_law_k"] ["_law_error", "_law_number"] (defScope sSound) := ⟨rfl, rfl, rfl, by decide +kernel, rfl, by decide +kernel, by decide +kernel⟩
theorem ok_sound {f fS : Addr} {fd fdS : FuncData} (F : Fun K "_law_is_sound" "_law_is_sound" sSound f fd) (T : TxtE P w K mg base C CP) (FS : Fun K "_law_sorts" "_law_sorts" sSorts fS fdS) (bS : Binds K fdS ["_law_error"] []) (gS : mg "_law_sorts" = some (.ref fS)) :
    FnOk P w K mg base CX0 2 f fd ["_law_error", "_law_number"] (spSound C) := by
  have GS : FnOk P w K mg base CX0 1 fS fdS ["_law_error"] (spSorts C) := ok_sorts FS T
  refine F.ok scSound (fun vs H Q E h => ?_) (fun cdv A outer s H vs Q E hr h => ?_)
  · obtain ⟨a, i, rfl, _⟩ := h
    rfl
  obtain ⟨a, i, rfl, hi, he, k⟩ := h
  refine ⟨_, pss_cons (ps_set (i := 2) scSound.nd rfl (Or.inl rfl) (pe_lst (pa_cons (pe_callB call_isX (by rfl) T.isi (by decide +kernel) (pa_cons (pv 0) (pa_cons (pe_bltn (v := .ty "ValueError") (by rfl) T.bV (by decide +kernel) rfl) pa_nil)))
      (pa_cons (pe_callB call_isX (by rfl) T.isi (by decide +kernel) (pa_cons (pv 0) (pa_cons (pe_bltn (v := .ty "TypeError") (by rfl) T.bT (by decide +kernel) rfl) pa_nil)))
      (pa_cons (pe_callB call_isX (by rfl) T.isi (by decide +kernel) (pa_cons (pv 0) (pa_cons (pe_bltn (v := .ty "LookupError") (by rfl) T.bL (by decide +kernel) rfl) pa_nil))) pa_nil)))))
    (pss_cons (ps_if (pt_cmpR op_in_seq pe_bl (pe_op op_cat (pv 2) (pe_lst (pa_cons (pe_callB call_isX (by rfl) T.isi (by decide +kernel) (pa_cons (pv 0) (pa_cons (pe_bltn (v := .ty "ArithmeticError") (by rfl) T.bA (by decide +kernel) rfl) pa_nil)))
      (pa_cons (pe_callB call_isX (by rfl) T.isi (by decide +kernel) (pa_cons (pv 0) (pa_cons (pe_bltn (v := .ty "RuntimeError") (by rfl) T.bR (by decide +kernel) rfl) pa_nil))) pa_nil)))) (by rfl)) (pss_one (ps_ret pe_bl)) pss_nil)
    (pss_one (ps_ret (pe_and (pe_callB call_isX (by rfl) T.isi (by decide +kernel) (pa_cons (pv 0) (pa_cons (pe_glob (v := .ref CP) rfl T.gP rfl) pa_nil)))
      (pe_one (pe_cmpR (op_eqD hr.units) (pe_call GS hr rfl gS FS.kp bS .nil pass0 (pa_cons (pv 0) pa_nil))
        (pe_lc (own := [("_law_k", 3)]) (g := gName 3) (tt := tYes) rfl scSound.nd (pi_range1 rfl T.rng (pa_cons pe_int pa_nil)) (blkOk_by (N := ["_law_error", "_law_number", "_law_usual", "_law_k"]) (sc := defScope sSound) (by decide +kernel))
          (fun _ _ _ _ _ => pg_name (i := 3) scSound.nd rfl (Or.inl rfl)) (fun _ _ _ _ _ => pts_nil) (fun _ _ _ _ _ => pe_cmpR op_eq (pv 3) (pv 1) (nomark _))) (nomark _))))))), ?_⟩
  obtain ⟨dd, x0, y0⟩ := id he
  refine ⟨_, rfl, a, C i, dd, _, _, _, rfl, .ty _, T.ex i hi, x0, y0, T.kB i hi "ValueError" (by simp), _, rfl, a, C i, dd, _, _, _, rfl, .ty _, T.ex i hi, x0, y0, T.kB i hi "TypeError" (by simp),
    _, rfl, a, C i, dd, _, _, _, rfl, .ty _, T.ex i hi, x0, y0, T.kB i hi "LookupError" (by simp), (by show 3 ≤ sizeLine; decide), fun l1 h1 => ?_⟩
  have s1 : Same H (upd H l1 (.lst [.bl false, .bl false, .bl false])) := same_new h1 _
  have z1 : upd H l1 (.lst [.bl false, .bl false, .bl false]) l1 = some (.lst [.bl false, .bl false, .bl false]) := upd_same
  obtain ⟨dd1, x1, y1⟩ := he.same s1
  refine ⟨_, rfl, _, rfl, a, C i, dd1, _, _, _, rfl, .ty _, T.ex i hi, x1, y1, T.kB i hi "ArithmeticError" (by simp), _, rfl, a, C i, dd1, _, _, _, rfl, .ty _, T.ex i hi, x1, y1, T.kB i hi "RuntimeError" (by simp),
    (by show 2 ≤ sizeLine; decide), fun l2 h2 => ?_⟩
  refine ⟨l1, l2, _, _, rfl, rfl, same_new h2 _ _ _ z1, upd_same, (by show 3 + 2 ≤ sizeLine; decide), fun l3 h3 => ?_⟩
  have s3 := (s1.trans (same_new h2 (.lst [.bl false, .bl false]))).trans (same_new h3 (.lst ([.bl false, .bl false, .bl false] ++ [.bl false, .bl false])))
  refine ⟨l3, _, rfl, .inl (SqL.of upd_same), rfl, (by decide), _, rfl, if_ (by decide) ?_⟩
  have he3 := he.same s3
  obtain ⟨dd3, x3, y3⟩ := id he3
  refine ⟨_, rfl, a, C i, dd3, _, _, _, rfl, .own _, T.ex i hi, x3, y3, T.kP i hi, true, rfl, iteT ?_⟩
  refine ⟨_, rfl, a, i, rfl, hi, he3, fun l4 H4 s4 z4 => ⟨11, rfl, by decide, by decide, fun D hD => ?_⟩⟩
  refine lc_range (lo := 0) (n := 11) (fun j H' => Same H4 H' ∧ H' D = some (.lst ((List.range j).map fun m => V.bl (decide (i = m))))) ⟨same_new hD _, upd_same⟩ ?_ ?_
  · rintro j H' hj ⟨s5, z5⟩
    refine ⟨rfl, _, rfl, _, rfl, rfl, _, z5, small1000 (by rw [List.length_map, List.length_range]; omega), fun b o e => ?_, ?_⟩
    · rw [upd_ne (ne_of_none e hD)]
      exact s5 b o e
    · rw [upd_same, range_more, dec_int]
  · rintro H' ⟨s5, z5⟩
    have z5' : H' D = some (.lst ((sortsOf i).map V.bl)) := by rw [z5, sortsOf, List.map_map] <;> rfl
    refine ⟨_, _, .lst (SqL.of (s5 _ _ z4)) (dpAll_bools _), .lst (SqL.of z5') (dpAll_bools _), shaped_bools _, shaped_bools _, ?_⟩
    rw [eqv_bools]
    exact k H' (((s3.trans s4).trans s5))
/-! ### a raised one is caught as what it is -/
def spCaught : Sp := fun vs H Q _ => ∃ n : Nat, vs = [.int n] ∧ 8 ≤ n ∧ n ≤ 10 ∧ ∀ H', Same H H' → Q (.bl true) H'
theorem scCaught : FnScope ["_law_number", "_law_found", "e", "_law_k"] ["_law_number"] (defScope sCaught) := ⟨rfl, rfl, rfl, by decide +kernel, rfl, by decide +kernel, by decide +kernel⟩
theorem ok_caught {f fS : Addr} {fd fdS : FuncData} (F : Fun K "_law_caught" "_law_caught" sCaught f fd) (T : TxtE P w K mg base C CP) (FS : Fun K "_law_sorts" "_law_sorts" sSorts fS fdS) (bS : ∀ (s : Shared) (u : Value), BindsTo s fdS ⟨[u], []⟩ [("_law_error", u)]) (gS : mg "_law_sorts" = some (.ref fS)) :
    FnOk P w K mg base CX0 2 f fd ["_law_number"] spCaught := by
  have GS := pin_sorts FS T
  refine F.ok scCaught (fun vs H Q E h => ?_) (fun cdv A outer s H vs Q E hr h => ?_)
  · obtain ⟨n, rfl, _⟩ := h
    rfl
  obtain ⟨n, rfl, n8, n10, k⟩ := h
  refine ⟨_, pss_cons (ps_set (i := 1) scCaught.nd rfl (Or.inl rfl) pe_non)
    (pss_cons (ps_try_as (i := 2) (Wout := fun _ _ _ _ => False) rfl rfl scCaught.nd rfl rfl ⟨rfl, by decide, Or.inl T.gP⟩ takes0
      (fun W pn xe tk _ => pss_cons (ps_if (pt_cmpR op_eq (pv 0) pe_int (nomark _)) (pss_one (ps_raise rfl tk (pmk_ex0 T.n8 T.g8))) pss_nil)
        (pss_cons (ps_if (pt_cmpR op_eq (pv 0) pe_int (nomark _)) (pss_one (ps_raise rfl tk (pmk_ex0 T.n9 T.g9))) pss_nil)
        (pss_one (ps_raise rfl tk (pmk_ex0 T.n10 T.g10)))))
      (fun a oe cls d pn hz hf => pss_one (ps_set (i := 1) scCaught.nd rfl (Or.inl rfl) (pe_pin GS ⟨hr.dp, hr.un⟩ hz hf gS FS.kp bS (pv 2)))))
    (pss_one (ps_ret (pe_cmpR (op_eqD hr.units) (pv 1)
        (pe_lc (own := [("_law_k", 3)]) (g := gName 3) (tt := tYes) rfl scCaught.nd (pi_range1 rfl T.rng (pa_cons pe_int pa_nil)) (blkOk_by (N := ["_law_number", "_law_found", "e", "_law_k"]) (sc := defScope sCaught) (by decide +kernel))
          (fun _ _ _ _ _ => pg_name (i := 3) scCaught.nd rfl (Or.inl rfl)) (fun _ _ _ _ _ => pts_nil) (fun _ _ _ _ _ => pe_cmpR op_eq (pv 3) (pv 0) (nomark _))) (nomark _))))), ?_⟩
  obtain rfl | rfl | rfl : n = 8 ∨ n = 9 ∨ n = 10 := by omega
  · refine ⟨_, rfl, rfl, _, rfl, it_ (by decide) ⟨true, T.xm 8 (by decide), fun _ a0 _ => ⟨_, rfl, rfl, rfl, 8, by decide, rfl, fun l H1 s1 z1 => ?_⟩, fun z => nomatch z⟩⟩
    refine ⟨_, rfl, 11, rfl, by decide, by decide, fun D hD => ?_⟩
    refine lc_range (lo := 0) (n := 11) (fun j H' => Same H1 H' ∧ H' D = some (.lst ((List.range j).map fun m => V.bl (decide (8 = m))))) ⟨same_new hD _, upd_same⟩ ?_ ?_
    · rintro j H' hj ⟨s5, z5⟩
      refine ⟨rfl, _, rfl, _, rfl, rfl, _, z5, small1000 (by rw [List.length_map, List.length_range]; omega), fun b o e => ?_, ?_⟩
      · rw [upd_ne (ne_of_none e hD)]
        exact s5 b o e
      · rw [upd_same, range_more, dec_int]
    · rintro H' ⟨s5, z5⟩
      have z5' : H' D = some (.lst ((sortsOf 8).map V.bl)) := by rw [z5, sortsOf, List.map_map] <;> rfl
      refine ⟨_, _, .lst (SqL.of (s5 _ _ z1)) (dpAll_bools _), .lst (SqL.of z5') (dpAll_bools _), shaped_bools _, shaped_bools _, ?_⟩
      rw [eqv_bools]
      exact k H' (s1.trans s5)
  · refine ⟨_, rfl, rfl, _, rfl, if_ (by decide) ⟨_, rfl, rfl, _, rfl, it_ (by decide) ⟨true, T.xm 9 (by decide), fun _ a0 _ => ⟨_, rfl, rfl, rfl, 9, by decide, rfl, fun l H1 s1 z1 => ?_⟩, fun z => nomatch z⟩⟩⟩
    refine ⟨_, rfl, 11, rfl, by decide, by decide, fun D hD => ?_⟩
    refine lc_range (lo := 0) (n := 11) (fun j H' => Same H1 H' ∧ H' D = some (.lst ((List.range j).map fun m => V.bl (decide (9 = m))))) ⟨same_new hD _, upd_same⟩ ?_ ?_
    · rintro j H' hj ⟨s5, z5⟩
      refine ⟨rfl, _, rfl, _, rfl, rfl, _, z5, small1000 (by rw [List.length_map, List.length_range]; omega), fun b o e => ?_, ?_⟩
      · rw [upd_ne (ne_of_none e hD)]
        exact s5 b o e
      · rw [upd_same, range_more, dec_int]
    · rintro H' ⟨s5, z5⟩
      have z5' : H' D = some (.lst ((sortsOf 9).map V.bl)) := by rw [z5, sortsOf, List.map_map] <;> rfl
      refine ⟨_, _, .lst (SqL.of (s5 _ _ z1)) (dpAll_bools _), .lst (SqL.of z5') (dpAll_bools _), shaped_bools _, shaped_bools _, ?_⟩
      rw [eqv_bools]
      exact k H' (s1.trans s5)
  · refine ⟨_, rfl, rfl, _, rfl, if_ (by decide) ⟨_, rfl, rfl, _, rfl, if_ (by decide) ⟨true, T.xm 10 (by decide), fun _ a0 _ => ⟨_, rfl, rfl, rfl, 10, by decide, rfl, fun l H1 s1 z1 => ?_⟩, fun z => nomatch z⟩⟩⟩
    refine ⟨_, rfl, 11, rfl, by decide, by decide, fun D hD => ?_⟩
    refine lc_range (lo := 0) (n := 11) (fun j H' => Same H1 H' ∧ H' D = some (.lst ((List.range j).map fun m => V.bl (decide (10 = m))))) ⟨same_new hD _, upd_same⟩ ?_ ?_
    · rintro j H' hj ⟨s5, z5⟩
      refine ⟨rfl, _, rfl, _, rfl, rfl, _, z5, small1000 (by rw [List.length_map, List.length_range]; omega), fun b o e => ?_, ?_⟩
      · rw [upd_ne (ne_of_none e hD)]
        exact s5 b o e
      · rw [upd_same, range_more, dec_int]
    · rintro H' ⟨s5, z5⟩
      have z5' : H' D = some (.lst ((sortsOf 10).map V.bl)) := by rw [z5, sortsOf, List.map_map] <;> rfl
      refine ⟨_, _, .lst (SqL.of (s5 _ _ z1)) (dpAll_bools _), .lst (SqL.of z5') (dpAll_bools _), shaped_bools _, shaped_bools _, ?_⟩
      rw [eqv_bools]
      exact k H' (s1.trans s5)
end
end Vf

set_option Elab.async false
set_option linter.all false
set_option maxRecDepth 100000
set_option maxHeartbeats 4000000
namespace Vf
open PySem PySem.Spec PyProof.Rows L2 L2.Vx
abbrev sLaw : Stmt := top 23
structure TxtL (P : Program) (w : World) (K : PySem.W.Frag) (mg : Str → Option Value) (base : Heap) (C : Nat → Addr) (CP fD fV fM fB fS fC : Addr) : Prop extends TxtE P w K mg base C CP where
  gD : mg "_law_deck" = some (.ref fD)
  gV : mg "_law_value" = some (.ref fV)
  gM : mg "_law_made" = some (.ref fM)
  gB : mg "_law_borne" = some (.ref fB)
  gS : mg "_law_is_sound" = some (.ref fS)
  gC : mg "_law_caught" = some (.ref fC)
  rep : mg "repr" = none
  enu : mg "enumerate" = none
def spLaw (K : PySem.W.Frag) : Sp := fun vs H Q _ => ∃ (a : Addr) (ns : List Int), vs = [.ref a] ∧ SqL K H a (ns.map V.int) ∧ ns.length ≤ 63 ∧ ∀ H', Q (.bl true) H'
section
variable {P : Program} {w : World} {K : PySem.W.Frag} {mg : Str → Option Value} {base : Heap} {C : Nat → Addr} {CP fD fV fM fB fS fC : Addr} {fdD fdV fdM fdB fdS fdC : FuncData}
theorem scLaw : FnScope ["_law_script", "_law_deck_here", "_law_go", "_law_it", "_law_seen", "_law_k", "_law_error", "_law_some"] ["_law_script"] (defScope sLaw) := ⟨rfl, rfl, rfl, by decide +kernel, rfl, by decide +kernel, by decide +kernel⟩
theorem ok_law {f : Addr} {fd : FuncData} (F : Fun K "law" "law" sLaw f fd) (T : TxtL P w K mg base C CP fD fV fM fB fS fC)
    (GD : FnOk P w K mg base CX0 1 fD fdD ["_law_script"] (spDeck K)) (bD : Binds K fdD ["_law_script"] []) (kD : PySem.W.keepIn K (.ref fD) = true)
    (GV : FnOk P w K mg base CX0 6 fV fdV ["_law_deck_here", "_law_deep"] (spVal 4)) (bV : Binds K fdV ["_law_deck_here", "_law_deep"] []) (kV : PySem.W.keepIn K (.ref fV) = true)
    (GM : FnOk P w K mg base CX0 3 fM fdM ["_law_it"] (spMade C)) (bM : Binds K fdM ["_law_it"] []) (kM : PySem.W.keepIn K (.ref fM) = true)
    (GB : FnOk P w K mg base CX0 1 fB fdB ["_law_number", "_law_error"] (spBorne C)) (bB : Binds K fdB ["_law_number", "_law_error"] []) (kB : PySem.W.keepIn K (.ref fB) = true)
    (GS : FnOk P w K mg base CX0 2 fS fdS ["_law_error", "_law_number"] (spSound C)) (bS : Binds K fdS ["_law_error", "_law_number"] []) (kS : PySem.W.keepIn K (.ref fS) = true)
    (GC : FnOk P w K mg base CX0 2 fC fdC ["_law_number"] spCaught) (bC : Binds K fdC ["_law_number"] []) (kC : PySem.W.keepIn K (.ref fC) = true) :
    FnG P w K mg base 7 f fd ["_law_script"] (spLaw K) := by
  refine FunG F scLaw (fun vs H Q E h => ?_) (fun cdv A outer s H vs Q E hr hg h => ?_)
  · obtain ⟨a, ns, rfl, _⟩ := h
    rfl
  obtain ⟨a, ns, rfl, hS, h63, k⟩ := h
  have hr1 : Room 1 _ := hr.mono (by decide)
  have hr2 : Room 2 _ := hr.mono (by decide)
  have hr3 : Room 3 _ := hr.mono (by decide)
  have hu : (A.deeper (envOfC "law" (defScope sLaw) s.heap.objs.size f cdv)).units + 100 < cLine := by
    have z := hr.un
    omega
  refine ⟨_, pss_cons (ps_set (i := 1) scLaw.nd rfl (Or.inl rfl) (pe_call GD hr1 rfl T.gD kD bD .nil pass0 (pa_cons (pv 0) pa_nil)))
    (pss_cons (ps_for PassesOwn.never rfl (pi_range1 rfl T.rng (pa_cons pe_int pa_nil)) (pg_name (i := 2) scLaw.nd rfl (Or.inl rfl))
      (pss_cons (ps_set (i := 3) scLaw.nd rfl (Or.inl rfl) (pe_call GV hr rfl T.gV kV bV .nil pass0 (pa_cons (pv 1) (pa_cons pe_int pa_nil))))
      (pss_cons (ps_set (i := 4) scLaw.nd rfl (Or.inl rfl) (pe_callB (call_rep hg hu (fun _ => True)) (by rfl) T.rep (by decide +kernel) (pa_cons (pv 3) pa_nil)))
      (pss_one (ps_for PassesOwn.never rfl (pi_enum (by rfl) T.enu (pa_cons (pe_call GM hr3 rfl T.gM kM bM .nil pass0 (pa_cons (pv 3) pa_nil)) pa_nil)) (pg_tup rfl (pgs_cons (pg_name (i := 5) scLaw.nd rfl (Or.inl rfl)) (pgs_cons (pg_name (i := 6) scLaw.nd rfl (Or.inl rfl)) pgs_nil)))
        (pss_one (ps_if (PW.pt (pw_or (pt_cmpR op_ne (pe_callB (call_rep hg hu (fun _ => True)) (by rfl) T.rep (by decide +kernel) (pa_cons (pe_call GB hr1 rfl T.gB kB bB .nil pass0 (pa_cons (pe_op op_fdiv (pv 5) pe_int) (pa_cons (pv 6) pa_nil))) pa_nil)) (pv 4) (nomark _))
            (pw_or1 (pt_not (pt_val (pe_call GS hr2 rfl T.gS kS bS .nil pass0 (pa_cons (pv 6) (pa_cons (pe_op op_fdiv (pv 5) pe_int) pa_nil)))))))) (pss_one (ps_ret pe_bl)) pss_nil)))))))
    (pss_cons (ps_set (i := 7) scLaw.nd rfl (Or.inl rfl) (pe_lst (pa_cons (pe_ex0 T.n8 T.g8) (pa_cons (pe_ex0 T.n9 T.g9) (pa_cons (pe_ex0 T.n10 T.g10) pa_nil)))))
    (pss_one (ps_ret (pe_cmpR (op_eqD hr.units)
      (pe_lc (own := [("_law_k", 5), ("_law_error", 6)]) (g := gTup K 2 (gCons (gName 5) (gCons (gName 6) gNil))) rfl scLaw.nd (pi_enum (by rfl) T.enu (pa_cons (pv 7) pa_nil)) (blkOk_by (N := ["_law_script", "_law_deck_here", "_law_go", "_law_it", "_law_seen", "_law_k", "_law_error", "_law_some"]) (sc := defScope sLaw) (by decide +kernel))
        (fun _ _ _ _ _ => by exact (pg_tup rfl (pgs_cons (pg_name (i := 5) scLaw.nd rfl (Or.inl rfl)) (pgs_cons (pg_name (i := 6) scLaw.nd rfl (Or.inl rfl)) pgs_nil))))
        (fun _ _ _ _ _ => by exact pts_one (PW.pt (pw_or (pt_not (pt_val (pe_call GS hr2 rfl T.gS kS bS .nil pass0 (pa_cons (pv 6) (pa_cons (pe_op op_add pe_int (pv 5)) pa_nil)))))
          (pw_or1 (pt_not (pt_val (pe_call GC hr2 rfl T.gC kC bC .nil pass0 (pa_cons (pe_op op_add pe_int (pv 5)) pa_nil))))))))
        (fun _ _ _ _ _ => by exact pv 5)) (pe_lst pa_nil) (nomark _)))))), ?_⟩
  refine ⟨_, rfl, a, ns, rfl, hS, h63, fun d g H1 s1 nd ng hD1 => ?_⟩
  refine ⟨4, rfl, by decide, by decide, for_range (lo := 0) (n := 4) (fun i σ H' => ∃ v2 v3 v4 v5 v6, σ = [some (.ref a), some (.ref d), v2, v3, v4, v5, v6, none] ∧ DeckAt H' d g) ⟨none, none, none, none, none, rfl, hD1⟩ ?_ ?_⟩
  · rintro i σ H' hi ⟨v2, v3, v4, v5, v6, rfl, hD'⟩
    refine ⟨_, rfl, d, g, 3, rfl, rfl, hD', fun v D H2 hdv hgv hD2 k2 => ?_⟩
    have hsh : Shows D := ⟨hgv.sh, Nat.le_trans hgv.len (by decide), Nat.le_trans hgv.dep (by decide)⟩
    refine ⟨_, rfl, v, D, rfl, hdv.mono (fun _ _ _ e => e) (fun _ _ _ _ => trivial), hsh, ?_⟩
    refine ⟨_, rfl, v, rfl, fun l xs H3 s3 z3 n16 er => ⟨l, xs, rfl, SqL.of z3, ?_⟩⟩
    refine for_it walk_enum (fun j σ H' => ∃ v5 v6, σ = [some (.ref a), some (.ref d), some (.int (0 + (i : Int))), some v, some (.str D.shown), v5, v6, none] ∧ Same H3 H') ⟨v5, v6, rfl, .refl _⟩ (fun j σ H' _ ⟨_, _, _, s⟩ => s.seq (SqL.of z3)) ?_ ?_
    · rintro j x σ H4 H5 hj ⟨u5, u6, rfl, s4⟩ ⟨T1, x1, y1, rfl, hT, rfl, e1, e2⟩
      have e1' : V.int (j : Nat) = x1 := Option.some.inj e1
      subst e1'
      obtain ⟨b, rfl, hb⟩ := er.get e2
      have s5 := s4.trans (same_new hT (.tup [.int (j : Nat), .ref b]))
      have hj8 : j / 2 < 8 := by omega
      have hb5 : ErrAt C (upd H4 T1 (.tup [.int (j : Nat), .ref b])) b (j / 2) v := by
        have q := hb.same s5
        rw [Nat.zero_add] at q
        exact q
      have ek : ((j : Nat) : Int) / 2 = ((j / 2 : Nat) : Int) := by omega
      refine ⟨T1, _, rfl, SqT.of upd_same, rfl, _, _, rfl, _, _, rfl, rfl, ?_⟩
      refine ⟨_, rfl, _, _, rfl, rfl, ⟨by decide, by decide⟩, _, rfl, j / 2, b, v, by rw [← ek]; rfl, hj8, hb5, v, D, rfl, hdv.mono (fun c o _ e => s5 _ _ (s3 _ _ e)) (fun _ _ _ _ => trivial), hsh, _, rfl, rfl, _, rfl, if_ (by simp) ?_⟩
      refine ⟨_, rfl, _, rfl, _, _, rfl, rfl, ⟨by decide, by decide⟩, b, j / 2, by rw [← ek]; rfl, by omega, hb5.is, fun H6 s6 => ⟨true, rfl, iteF ?_⟩⟩
      exact ⟨_, _, rfl, s5.trans s6⟩
    · rintro σ H4 ⟨u5, u6, rfl, s4⟩
      exact ⟨_, _, _, _, _, rfl, hD2.same (s3.trans s4)⟩
  · rintro σ H2 ⟨v2, v3, v4, v5, v6, rfl, hD2⟩
    intro a8 h8 a9 h9 a10 h10
    refine ⟨(by show 3 ≤ sizeLine; decide), fun l hl => ?_⟩
    have t9 := same_new h9 (exo a9 (C 9) none)
    have t10 := same_new h10 (exo a10 (C 10) none)
    have tl := same_new hl (.lst [.ref a8, .ref a9, .ref a10])
    have i8 : IsErr C _ a8 8 := ⟨none, tl _ _ (t10 _ _ (t9 _ _ (upd_same (H := H2)))), fun d e => nomatch e⟩
    have i9 : IsErr C _ a9 9 := ⟨none, tl _ _ (t10 _ _ upd_same), fun d e => nomatch e⟩
    have i10 : IsErr C _ a10 10 := ⟨none, tl _ _ upd_same, fun d e => nomatch e⟩
    have zl := upd_same (H := upd (upd (upd H2 a8 (exo a8 (C 8) none)) a9 (exo a9 (C 9) none)) a10 (exo a10 (C 10) none)) (a := l) (o := .lst [.ref a8, .ref a9, .ref a10])
    refine ⟨_, rfl, l, _, rfl, SqL.of zl, fun D hD => ?_⟩
    refine lc_it walk_enum (fun j H' => Same _ H' ∧ H' D = some (.lst [])) ⟨same_new hD _, upd_same⟩ (fun j H' _ ⟨s, _⟩ => s.seq (SqL.of zl)) ?_ ?_
    · rintro j x H4 H5 hj ⟨s4, z4⟩ ⟨T1, x1, y1, rfl, hT, rfl, e1, e2⟩
      have e1' : V.int (j : Nat) = x1 := Option.some.inj e1
      subst e1'
      have key : ∃ b, y1 = .ref b ∧ IsErr C (upd (upd (upd (upd H2 a8 (exo a8 (C 8) none)) a9 (exo a9 (C 9) none)) a10 (exo a10 (C 10) none)) l (.lst [.ref a8, .ref a9, .ref a10])) b (8 + j) := by
        match j, hj, e2 with
        | 0, _, e2 => exact ⟨a8, (Option.some.inj e2).symm, i8⟩
        | 1, _, e2 => exact ⟨a9, (Option.some.inj e2).symm, i9⟩
        | 2, _, e2 => exact ⟨a10, (Option.some.inj e2).symm, i10⟩
        | j + 3, hj, _ => exact absurd hj (by show ¬ j + 3 < 3; omega)
      obtain ⟨b, rfl, hb⟩ := key
      have hj3 : j < 3 := hj
      have s5 := s4.trans (same_new hT (.tup [.int (j : Nat), .ref b]))
      have ek : (8 : Int) + ((j : Nat) : Int) = ((8 + j : Nat) : Int) := by omega
      refine ⟨T1, _, rfl, SqT.of upd_same, rfl, _, _, rfl, _, _, rfl, rfl, rfl, ?_⟩
      refine ⟨_, rfl, _, rfl, _, _, rfl, rfl, b, 8 + j, by rw [← ek]; rfl, by omega, hb.same s5, fun H6 s6 => ⟨true, rfl, iteF ?_⟩⟩
      refine ⟨_, rfl, _, _, rfl, rfl, 8 + j, by rw [← ek]; rfl, by omega, by omega, fun H7 s7 => ⟨true, rfl, iteF ?_⟩⟩
      have s8 := s6.trans s7
      exact ⟨(s5.trans s8), s8 _ _ (same_new hT _ _ _ z4)⟩
    · rintro H4 ⟨s4, z4⟩
      refine ⟨Nat.zero_le _, fun p hp => ⟨.list [], .list [], .lst (SqL.of (same_new hp _ _ _ z4)) .nil, .lst (SqL.of upd_same) .nil, by decide +kernel, by decide +kernel, ?_⟩⟩
      exact k _
end
end Vf

set_option Elab.async false
set_option linter.all false
set_option maxRecDepth 100000
set_option maxHeartbeats 4000000
namespace Vf
open PySem PySem.Spec PyProof.Rows L2 L2.Vx
/-! ### what the top has written -/
def clsOk (K : PySem.W.Frag) (C : Addr) : Bool :=
  PySem.W.findIn K (.ref C) "__setattr__" == some (some (.builtin "object.__setattr__")) && (PySem.W.findIn K (.ref C) "__getattribute__" == some (some (.builtin "BaseException.__getattribute__")) && (PySem.W.findIn K (.ref C) "__getattr__" == some none &&
  (PySem.W.findIn K (.ref C) "__class__" == some (some (.builtin "object.__class__")) && (PySem.W.specialIn K (.builtin "object.__class__") "__get__" == some (some (.builtin "getset_descriptor.__get__")) && (PySem.W.takesIn K (.builtin "object.__class__") == some true &&
  (PySem.W.mroIn K C (.type "object") == some true && (PySem.W.subIn K (.ref C) (.type "BaseException") == some true && (PySem.W.typeIn K (.ref C) == some (.type "type") && (PySem.W.hasDictIn K C && PySem.W.keepIn K (.ref C))))))))))
theorem oexE_of {K : PySem.W.Frag} {C CP : Addr} {nm q : Str} {N : Addr} {bs : List Value} {sn : List Str} {sub : List Value} {ab : Bool} {col : Option Bool} {dd : Option Addr} {k0 k1 k2 k3 k5 : Option Value}
    (x : K.lookup C = some (excClassObj nm q C N bs [.ref CP, .type "Exception", .type "BaseException", .type "object"] true sn sub ab col dd k0 k1 k2 k3 k5 "Exception.__new__")) (h : clsOk K C = true) : OexE K C := by
  unfold clsOk at h
  obtain ⟨h1, h⟩ := Bool.and_eq_true_iff.mp h
  obtain ⟨h2, h⟩ := Bool.and_eq_true_iff.mp h
  obtain ⟨h3, h⟩ := Bool.and_eq_true_iff.mp h
  obtain ⟨h4, h⟩ := Bool.and_eq_true_iff.mp h
  obtain ⟨h5, h⟩ := Bool.and_eq_true_iff.mp h
  obtain ⟨h6, h⟩ := Bool.and_eq_true_iff.mp h
  obtain ⟨h7, h⟩ := Bool.and_eq_true_iff.mp h
  obtain ⟨h8, h⟩ := Bool.and_eq_true_iff.mp h
  obtain ⟨h9, h⟩ := Bool.and_eq_true_iff.mp h
  obtain ⟨h10, h11⟩ := Bool.and_eq_true_iff.mp h
  exact ⟨⟨nm, q, N, bs, _, sn, sub, ab, col, dd, k0, k1, k2, k3, k5, x, by rfl⟩, eq_of_beq h1, eq_of_beq h2, eq_of_beq h3, eq_of_beq h4, eq_of_beq h5, eq_of_beq h6, eq_of_beq h7, eq_of_beq h8, eq_of_beq h9, h10, h11⟩
def kitOk (K : PySem.W.Frag) (cs : List Addr) (CP : Addr) : Bool :=
  (List.range 11).all fun i => (List.range 11).all (fun j => PySem.W.kitOne K (.ref (cs.getD i 0)) (.ref (cs.getD j 0)) == some (decide (i = j))) && (PySem.W.kitOne K (.ref (cs.getD i 0)) (.ref CP) == some true &&
    (["ValueError", "TypeError", "LookupError", "ArithmeticError", "RuntimeError"].all (fun n => PySem.W.kitOne K (.ref (cs.getD i 0)) (.type n) == some false) && PySem.W.exmOne K (.ref (cs.getD i 0)) (.ref CP) == some true))
theorem kit_row {K : PySem.W.Frag} {cs : List Addr} {CP : Addr} (h : kitOk K cs CP = true) (i : Nat) (hi : i < 11) :
    (∀ j, j < 11 → PySem.W.kitOne K (.ref (cs.getD i 0)) (.ref (cs.getD j 0)) = some (decide (i = j))) ∧ PySem.W.kitOne K (.ref (cs.getD i 0)) (.ref CP) = some true ∧
    (∀ n ∈ ["ValueError", "TypeError", "LookupError", "ArithmeticError", "RuntimeError"], PySem.W.kitOne K (.ref (cs.getD i 0)) (.type n) = some false) ∧ PySem.W.exmOne K (.ref (cs.getD i 0)) (.ref CP) = some true := by
  have h1 := List.all_eq_true.mp h i (List.mem_range.mpr hi)
  obtain ⟨h2, h1⟩ := Bool.and_eq_true_iff.mp h1
  obtain ⟨h3, h1⟩ := Bool.and_eq_true_iff.mp h1
  obtain ⟨h4, h5⟩ := Bool.and_eq_true_iff.mp h1
  exact ⟨fun j hj => eq_of_beq (List.all_eq_true.mp h2 j (List.mem_range.mpr hj)), eq_of_beq h3, fun n hn => eq_of_beq (List.all_eq_true.mp h4 n hn), eq_of_beq h5⟩
section
variable {P : Program} {w : World} {K : PySem.W.Frag} {mg : Str → Option Value} {base : Heap}
abbrev sI0 : Stmt := inClass (top 2) 0
theorem exK0 {C f : Addr} {oc : Value} {od an : Option Addr} {osl : Array (Option Value)} {kV doc pm cdv ct : Value} (T : OexE K C) (no : PySem.W.findIn K (.ref C) "part" = some none) (iC : PySem.W.findIn K (.ref C) "__init__" = some (some (.ref f))) (tI : PySem.W.typeIn K (.ref f) = some (.type "function"))
    (l : K.lookup f = some ⟨oc, od, .func (PySem.W.fnOf "__init__" "BadLanguage.__init__" (defArgs sI0) (defBody sI0) (defScope sI0) .none kV doc pm an cdv ct), osl⟩) (c : PySem.W.codeIn K cdv "BadLanguage.__init__" = true) (k : PySem.W.keepIn K (.ref f) = true) : ExK P w K mg base C "part" 1 := by
  refine ⟨T, no, f, PySem.W.fnOf "__init__" "BadLanguage.__init__" (defArgs sI0) (defBody sI0) (defScope sI0) .none kV doc pm an cdv ct, iC, tI, ?_, fun s a u => .of_eq rfl, fun s a u => .of_eq rfl⟩
  have sc : FnScope ["self", "part"] ["self", "part"] (defScope sI0) := ⟨rfl, rfl, rfl, by decide +kernel, rfl, by decide +kernel, by decide +kernel⟩
  refine (fun_mk (st := sI0) l c k).ok sc (fun vs H Q E h => ?_) (fun cdv A outer s H vs Q E hr h => ?_)
  · obtain ⟨a, v, rfl, _⟩ := h
    rfl
  obtain ⟨a, v, rfl, ha, q⟩ := h
  exact ⟨_, pss_one (ps_ostE (pv 0) (pv 1)), _, rfl, _, rfl, a, C, rfl, T, no, ha, q⟩
abbrev sI1 : Stmt := inClass (top 3) 0
theorem exK1 {C f : Addr} {oc : Value} {od an : Option Addr} {osl : Array (Option Value)} {kV doc pm cdv ct : Value} (T : OexE K C) (no : PySem.W.findIn K (.ref C) "line" = some none) (iC : PySem.W.findIn K (.ref C) "__init__" = some (some (.ref f))) (tI : PySem.W.typeIn K (.ref f) = some (.type "function"))
    (l : K.lookup f = some ⟨oc, od, .func (PySem.W.fnOf "__init__" "BadLine.__init__" (defArgs sI1) (defBody sI1) (defScope sI1) .none kV doc pm an cdv ct), osl⟩) (c : PySem.W.codeIn K cdv "BadLine.__init__" = true) (k : PySem.W.keepIn K (.ref f) = true) : ExK P w K mg base C "line" 1 := by
  refine ⟨T, no, f, PySem.W.fnOf "__init__" "BadLine.__init__" (defArgs sI1) (defBody sI1) (defScope sI1) .none kV doc pm an cdv ct, iC, tI, ?_, fun s a u => .of_eq rfl, fun s a u => .of_eq rfl⟩
  have sc : FnScope ["self", "line"] ["self", "line"] (defScope sI1) := ⟨rfl, rfl, rfl, by decide +kernel, rfl, by decide +kernel, by decide +kernel⟩
  refine (fun_mk (st := sI1) l c k).ok sc (fun vs H Q E h => ?_) (fun cdv A outer s H vs Q E hr h => ?_)
  · obtain ⟨a, v, rfl, _⟩ := h
    rfl
  obtain ⟨a, v, rfl, ha, q⟩ := h
  exact ⟨_, pss_one (ps_ostE (pv 0) (pv 1)), _, rfl, _, rfl, a, C, rfl, T, no, ha, q⟩
abbrev sI2 : Stmt := inClass (top 4) 0
theorem exK2 {C f : Addr} {oc : Value} {od an : Option Addr} {osl : Array (Option Value)} {kV doc pm cdv ct : Value} (T : OexE K C) (no : PySem.W.findIn K (.ref C) "value" = some none) (iC : PySem.W.findIn K (.ref C) "__init__" = some (some (.ref f))) (tI : PySem.W.typeIn K (.ref f) = some (.type "function"))
    (l : K.lookup f = some ⟨oc, od, .func (PySem.W.fnOf "__init__" "BadText.__init__" (defArgs sI2) (defBody sI2) (defScope sI2) .none kV doc pm an cdv ct), osl⟩) (c : PySem.W.codeIn K cdv "BadText.__init__" = true) (k : PySem.W.keepIn K (.ref f) = true) : ExK P w K mg base C "value" 1 := by
  refine ⟨T, no, f, PySem.W.fnOf "__init__" "BadText.__init__" (defArgs sI2) (defBody sI2) (defScope sI2) .none kV doc pm an cdv ct, iC, tI, ?_, fun s a u => .of_eq rfl, fun s a u => .of_eq rfl⟩
  have sc : FnScope ["self", "value"] ["self", "value"] (defScope sI2) := ⟨rfl, rfl, rfl, by decide +kernel, rfl, by decide +kernel, by decide +kernel⟩
  refine (fun_mk (st := sI2) l c k).ok sc (fun vs H Q E h => ?_) (fun cdv A outer s H vs Q E hr h => ?_)
  · obtain ⟨a, v, rfl, _⟩ := h
    rfl
  obtain ⟨a, v, rfl, ha, q⟩ := h
  exact ⟨_, pss_one (ps_ostE (pv 0) (pv 1)), _, rfl, _, rfl, a, C, rfl, T, no, ha, q⟩
abbrev sI3 : Stmt := inClass (top 5) 0
theorem exK3 {C f : Addr} {oc : Value} {od an : Option Addr} {osl : Array (Option Value)} {kV doc pm cdv ct : Value} (T : OexE K C) (no : PySem.W.findIn K (.ref C) "value" = some none) (iC : PySem.W.findIn K (.ref C) "__init__" = some (some (.ref f))) (tI : PySem.W.typeIn K (.ref f) = some (.type "function"))
    (l : K.lookup f = some ⟨oc, od, .func (PySem.W.fnOf "__init__" "BadView.__init__" (defArgs sI3) (defBody sI3) (defScope sI3) .none kV doc pm an cdv ct), osl⟩) (c : PySem.W.codeIn K cdv "BadView.__init__" = true) (k : PySem.W.keepIn K (.ref f) = true) : ExK P w K mg base C "value" 1 := by
  refine ⟨T, no, f, PySem.W.fnOf "__init__" "BadView.__init__" (defArgs sI3) (defBody sI3) (defScope sI3) .none kV doc pm an cdv ct, iC, tI, ?_, fun s a u => .of_eq rfl, fun s a u => .of_eq rfl⟩
  have sc : FnScope ["self", "value"] ["self", "value"] (defScope sI3) := ⟨rfl, rfl, rfl, by decide +kernel, rfl, by decide +kernel, by decide +kernel⟩
  refine (fun_mk (st := sI3) l c k).ok sc (fun vs H Q E h => ?_) (fun cdv A outer s H vs Q E hr h => ?_)
  · obtain ⟨a, v, rfl, _⟩ := h
    rfl
  obtain ⟨a, v, rfl, ha, q⟩ := h
  exact ⟨_, pss_one (ps_ostE (pv 0) (pv 1)), _, rfl, _, rfl, a, C, rfl, T, no, ha, q⟩
abbrev sI4 : Stmt := inClass (top 6) 0
theorem exK4 {C f : Addr} {oc : Value} {od an : Option Addr} {osl : Array (Option Value)} {kV doc pm cdv ct : Value} (T : OexE K C) (no : PySem.W.findIn K (.ref C) "place" = some none) (iC : PySem.W.findIn K (.ref C) "__init__" = some (some (.ref f))) (tI : PySem.W.typeIn K (.ref f) = some (.type "function"))
    (l : K.lookup f = some ⟨oc, od, .func (PySem.W.fnOf "__init__" "BadPlace.__init__" (defArgs sI4) (defBody sI4) (defScope sI4) .none kV doc pm an cdv ct), osl⟩) (c : PySem.W.codeIn K cdv "BadPlace.__init__" = true) (k : PySem.W.keepIn K (.ref f) = true) : ExK P w K mg base C "place" 1 := by
  refine ⟨T, no, f, PySem.W.fnOf "__init__" "BadPlace.__init__" (defArgs sI4) (defBody sI4) (defScope sI4) .none kV doc pm an cdv ct, iC, tI, ?_, fun s a u => .of_eq rfl, fun s a u => .of_eq rfl⟩
  have sc : FnScope ["self", "place"] ["self", "place"] (defScope sI4) := ⟨rfl, rfl, rfl, by decide +kernel, rfl, by decide +kernel, by decide +kernel⟩
  refine (fun_mk (st := sI4) l c k).ok sc (fun vs H Q E h => ?_) (fun cdv A outer s H vs Q E hr h => ?_)
  · obtain ⟨a, v, rfl, _⟩ := h
    rfl
  obtain ⟨a, v, rfl, ha, q⟩ := h
  exact ⟨_, pss_one (ps_ostE (pv 0) (pv 1)), _, rfl, _, rfl, a, C, rfl, T, no, ha, q⟩
abbrev sI5 : Stmt := inClass (top 8) 0
theorem exK5 {C f : Addr} {oc : Value} {od an : Option Addr} {osl : Array (Option Value)} {kV doc pm cdv ct : Value} (T : OexE K C) (no : PySem.W.findIn K (.ref C) "paper" = some none) (iC : PySem.W.findIn K (.ref C) "__init__" = some (some (.ref f))) (tI : PySem.W.typeIn K (.ref f) = some (.type "function"))
    (l : K.lookup f = some ⟨oc, od, .func (PySem.W.fnOf "__init__" "NoJudge.__init__" (defArgs sI5) (defBody sI5) (defScope sI5) .none kV doc pm an cdv ct), osl⟩) (c : PySem.W.codeIn K cdv "NoJudge.__init__" = true) (k : PySem.W.keepIn K (.ref f) = true) : ExK P w K mg base C "paper" 1 := by
  refine ⟨T, no, f, PySem.W.fnOf "__init__" "NoJudge.__init__" (defArgs sI5) (defBody sI5) (defScope sI5) .none kV doc pm an cdv ct, iC, tI, ?_, fun s a u => .of_eq rfl, fun s a u => .of_eq rfl⟩
  have sc : FnScope ["self", "paper"] ["self", "paper"] (defScope sI5) := ⟨rfl, rfl, rfl, by decide +kernel, rfl, by decide +kernel, by decide +kernel⟩
  refine (fun_mk (st := sI5) l c k).ok sc (fun vs H Q E h => ?_) (fun cdv A outer s H vs Q E hr h => ?_)
  · obtain ⟨a, v, rfl, _⟩ := h
    rfl
  obtain ⟨a, v, rfl, ha, q⟩ := h
  exact ⟨_, pss_one (ps_ostE (pv 0) (pv 1)), _, rfl, _, rfl, a, C, rfl, T, no, ha, q⟩
abbrev sI6 : Stmt := inClass (top 9) 0
theorem exK6 {C f : Addr} {oc : Value} {od an : Option Addr} {osl : Array (Option Value)} {kV doc pm cdv ct : Value} (T : OexE K C) (no : PySem.W.findIn K (.ref C) "pair" = some none) (iC : PySem.W.findIn K (.ref C) "__init__" = some (some (.ref f))) (tI : PySem.W.typeIn K (.ref f) = some (.type "function"))
    (l : K.lookup f = some ⟨oc, od, .func (PySem.W.fnOf "__init__" "Unjudged.__init__" (defArgs sI6) (defBody sI6) (defScope sI6) .none kV doc pm an cdv ct), osl⟩) (c : PySem.W.codeIn K cdv "Unjudged.__init__" = true) (k : PySem.W.keepIn K (.ref f) = true) : ExK P w K mg base C "pair" 1 := by
  refine ⟨T, no, f, PySem.W.fnOf "__init__" "Unjudged.__init__" (defArgs sI6) (defBody sI6) (defScope sI6) .none kV doc pm an cdv ct, iC, tI, ?_, fun s a u => .of_eq rfl, fun s a u => .of_eq rfl⟩
  have sc : FnScope ["self", "pair"] ["self", "pair"] (defScope sI6) := ⟨rfl, rfl, rfl, by decide +kernel, rfl, by decide +kernel, by decide +kernel⟩
  refine (fun_mk (st := sI6) l c k).ok sc (fun vs H Q E h => ?_) (fun cdv A outer s H vs Q E hr h => ?_)
  · obtain ⟨a, v, rfl, _⟩ := h
    rfl
  obtain ⟨a, v, rfl, ha, q⟩ := h
  exact ⟨_, pss_one (ps_ostE (pv 0) (pv 1)), _, rfl, _, rfl, a, C, rfl, T, no, ha, q⟩
abbrev sI7 : Stmt := inClass (top 11) 0
theorem exK7 {C f : Addr} {oc : Value} {od an : Option Addr} {osl : Array (Option Value)} {kV doc pm cdv ct : Value} (T : OexE K C) (no : PySem.W.findIn K (.ref C) "name" = some none) (iC : PySem.W.findIn K (.ref C) "__init__" = some (some (.ref f))) (tI : PySem.W.typeIn K (.ref f) = some (.type "function"))
    (l : K.lookup f = some ⟨oc, od, .func (PySem.W.fnOf "__init__" "NoLanguage.__init__" (defArgs sI7) (defBody sI7) (defScope sI7) .none kV doc pm an cdv ct), osl⟩) (c : PySem.W.codeIn K cdv "NoLanguage.__init__" = true) (k : PySem.W.keepIn K (.ref f) = true) : ExK P w K mg base C "name" 1 := by
  refine ⟨T, no, f, PySem.W.fnOf "__init__" "NoLanguage.__init__" (defArgs sI7) (defBody sI7) (defScope sI7) .none kV doc pm an cdv ct, iC, tI, ?_, fun s a u => .of_eq rfl, fun s a u => .of_eq rfl⟩
  have sc : FnScope ["self", "name"] ["self", "name"] (defScope sI7) := ⟨rfl, rfl, rfl, by decide +kernel, rfl, by decide +kernel, by decide +kernel⟩
  refine (fun_mk (st := sI7) l c k).ok sc (fun vs H Q E h => ?_) (fun cdv A outer s H vs Q E hr h => ?_)
  · obtain ⟨a, v, rfl, _⟩ := h
    rfl
  obtain ⟨a, v, rfl, ha, q⟩ := h
  exact ⟨_, pss_one (ps_ostE (pv 0) (pv 1)), _, rfl, _, rfl, a, C, rfl, T, no, ha, q⟩
theorem none_val {f : Addr} {fd : FuncData} {n : Nat} : FnOk P w K mg base CX0 n f fd ["_law_deck_here", "_law_deep"] (spVal 0) := by
  have no : ∀ vs H Q E, ¬ spVal 0 vs H Q E := fun vs H Q E h => by
    obtain ⟨d, g, k, ek, _⟩ := h
    exact nomatch ek
  exact ⟨fun vs H Q E h => absurd h (no vs H Q E), fun A outer s H args us vs Q E _ _ _ _ h => absurd h (no vs H Q E)⟩
theorem all_mk {l : PySem.W.OpenLaw} {h : Heap} {fa : Addr} (X : K.In h) (G : h.Ns mainGlobals mg) (hfa : mg "law" = some (.ref fa))
    {C0 N0 : Addr} {nm0 qn0 : Str} {bs0 : List Value} {sn0 : List Str} {sub0 : List Value} {ab0 : Bool} {col0 : Option Bool} {dd0 : Option Addr} {k00 k10 k20 k30 k50 : Option Value} {C1 N1 : Addr} {nm1 qn1 : Str} {bs1 : List Value} {sn1 : List Str} {sub1 : List Value} {ab1 : Bool} {col1 : Option Bool} {dd1 : Option Addr} {k01 k11 k21 k31 k51 : Option Value} {C2 N2 : Addr} {nm2 qn2 : Str} {bs2 : List Value} {sn2 : List Str} {sub2 : List Value} {ab2 : Bool} {col2 : Option Bool} {dd2 : Option Addr} {k02 k12 k22 k32 k52 : Option Value} {C3 N3 : Addr} {nm3 qn3 : Str} {bs3 : List Value} {sn3 : List Str} {sub3 : List Value} {ab3 : Bool} {col3 : Option Bool} {dd3 : Option Addr} {k03 k13 k23 k33 k53 : Option Value} {C4 N4 : Addr} {nm4 qn4 : Str} {bs4 : List Value} {sn4 : List Str} {sub4 : List Value} {ab4 : Bool} {col4 : Option Bool} {dd4 : Option Addr} {k04 k14 k24 k34 k54 : Option Value} {C5 N5 : Addr} {nm5 qn5 : Str} {bs5 : List Value} {sn5 : List Str} {sub5 : List Value} {ab5 : Bool} {col5 : Option Bool} {dd5 : Option Addr} {k05 k15 k25 k35 k55 : Option Value} {C6 N6 : Addr} {nm6 qn6 : Str} {bs6 : List Value} {sn6 : List Str} {sub6 : List Value} {ab6 : Bool} {col6 : Option Bool} {dd6 : Option Addr} {k06 k16 k26 k36 k56 : Option Value} {C7 N7 : Addr} {nm7 qn7 : Str} {bs7 : List Value} {sn7 : List Str} {sub7 : List Value} {ab7 : Bool} {col7 : Option Bool} {dd7 : Option Addr} {k07 k17 k27 k37 k57 : Option Value} {C8 N8 : Addr} {nm8 qn8 : Str} {bs8 : List Value} {sn8 : List Str} {sub8 : List Value} {ab8 : Bool} {col8 : Option Bool} {dd8 : Option Addr} {k08 k18 k28 k38 k58 : Option Value} {C9 N9 : Addr} {nm9 qn9 : Str} {bs9 : List Value} {sn9 : List Str} {sub9 : List Value} {ab9 : Bool} {col9 : Option Bool} {dd9 : Option Addr} {k09 k19 k29 k39 k59 : Option Value} {C10 N10 : Addr} {nm10 qn10 : Str} {bs10 : List Value} {sn10 : List Str} {sub10 : List Value} {ab10 : Bool} {col10 : Option Bool} {dd10 : Option Addr} {k010 k110 k210 k310 k510 : Option Value} {CP : Addr} {fI0 : Addr} {ocI0 : Value} {odI0 anI0 : Option Addr} {slI0 : Array (Option Value)} {kVI0 dcI0 pmI0 cdI0 ctI0 : Value} {fI1 : Addr} {ocI1 : Value} {odI1 anI1 : Option Addr} {slI1 : Array (Option Value)} {kVI1 dcI1 pmI1 cdI1 ctI1 : Value} {fI2 : Addr} {ocI2 : Value} {odI2 anI2 : Option Addr} {slI2 : Array (Option Value)} {kVI2 dcI2 pmI2 cdI2 ctI2 : Value} {fI3 : Addr} {ocI3 : Value} {odI3 anI3 : Option Addr} {slI3 : Array (Option Value)} {kVI3 dcI3 pmI3 cdI3 ctI3 : Value} {fI4 : Addr} {ocI4 : Value} {odI4 anI4 : Option Addr} {slI4 : Array (Option Value)} {kVI4 dcI4 pmI4 cdI4 ctI4 : Value} {fI5 : Addr} {ocI5 : Value} {odI5 anI5 : Option Addr} {slI5 : Array (Option Value)} {kVI5 dcI5 pmI5 cdI5 ctI5 : Value} {fI6 : Addr} {ocI6 : Value} {odI6 anI6 : Option Addr} {slI6 : Array (Option Value)} {kVI6 dcI6 pmI6 cdI6 ctI6 : Value} {fI7 : Addr} {ocI7 : Value} {odI7 anI7 : Option Addr} {slI7 : Array (Option Value)} {kVI7 dcI7 pmI7 cdI7 ctI7 : Value} {fD : Addr} {ocD : Value} {odD anD : Option Addr} {slD : Array (Option Value)} {kVD dcD pmD cdD ctD : Value} {fW : Addr} {ocW : Value} {odW anW : Option Addr} {slW : Array (Option Value)} {kVW dcW pmW cdW ctW : Value} {fP : Addr} {ocP : Value} {odP anP : Option Addr} {slP : Array (Option Value)} {kVP dcP pmP cdP ctP : Value} {fV : Addr} {ocV : Value} {odV anV : Option Addr} {slV : Array (Option Value)} {kVV dcV pmV cdV ctV : Value} {fM : Addr} {ocM : Value} {odM anM : Option Addr} {slM : Array (Option Value)} {kVM dcM pmM cdM ctM : Value} {fB : Addr} {ocB : Value} {odB anB : Option Addr} {slB : Array (Option Value)} {kVB dcB pmB cdB ctB : Value} {fR : Addr} {ocR : Value} {odR anR : Option Addr} {slR : Array (Option Value)} {kVR dcR pmR cdR ctR : Value} {fS : Addr} {ocS : Value} {odS anS : Option Addr} {slS : Array (Option Value)} {kVS dcS pmS cdS ctS : Value} {fC : Addr} {ocC : Value} {odC anC : Option Addr} {slC : Array (Option Value)} {kVC dcC pmC cdC ctC : Value} {fL : Addr} {ocL : Value} {odL anL : Option Addr} {slL : Array (Option Value)} {kVL dcL pmL cdL ctL : Value}
    (aCP : PySem.W.nsIn K mainGlobals "PieceError" = some (some (.ref CP)))
    (aC0 : PySem.W.nsIn K mainGlobals "BadLanguage" = some (some (.ref C0)))
    (xC0 : K.lookup C0 = some (excClassObj nm0 qn0 C0 N0 bs0 [.ref CP, .type "Exception", .type "BaseException", .type "object"] true sn0 sub0 ab0 col0 dd0 k00 k10 k20 k30 k50 "Exception.__new__"))
    (oC0 : clsOk K C0 = true)
    (aC1 : PySem.W.nsIn K mainGlobals "BadLine" = some (some (.ref C1)))
    (xC1 : K.lookup C1 = some (excClassObj nm1 qn1 C1 N1 bs1 [.ref CP, .type "Exception", .type "BaseException", .type "object"] true sn1 sub1 ab1 col1 dd1 k01 k11 k21 k31 k51 "Exception.__new__"))
    (oC1 : clsOk K C1 = true)
    (aC2 : PySem.W.nsIn K mainGlobals "BadText" = some (some (.ref C2)))
    (xC2 : K.lookup C2 = some (excClassObj nm2 qn2 C2 N2 bs2 [.ref CP, .type "Exception", .type "BaseException", .type "object"] true sn2 sub2 ab2 col2 dd2 k02 k12 k22 k32 k52 "Exception.__new__"))
    (oC2 : clsOk K C2 = true)
    (aC3 : PySem.W.nsIn K mainGlobals "BadView" = some (some (.ref C3)))
    (xC3 : K.lookup C3 = some (excClassObj nm3 qn3 C3 N3 bs3 [.ref CP, .type "Exception", .type "BaseException", .type "object"] true sn3 sub3 ab3 col3 dd3 k03 k13 k23 k33 k53 "Exception.__new__"))
    (oC3 : clsOk K C3 = true)
    (aC4 : PySem.W.nsIn K mainGlobals "BadPlace" = some (some (.ref C4)))
    (xC4 : K.lookup C4 = some (excClassObj nm4 qn4 C4 N4 bs4 [.ref CP, .type "Exception", .type "BaseException", .type "object"] true sn4 sub4 ab4 col4 dd4 k04 k14 k24 k34 k54 "Exception.__new__"))
    (oC4 : clsOk K C4 = true)
    (aC5 : PySem.W.nsIn K mainGlobals "NoJudge" = some (some (.ref C5)))
    (xC5 : K.lookup C5 = some (excClassObj nm5 qn5 C5 N5 bs5 [.ref CP, .type "Exception", .type "BaseException", .type "object"] true sn5 sub5 ab5 col5 dd5 k05 k15 k25 k35 k55 "Exception.__new__"))
    (oC5 : clsOk K C5 = true)
    (aC6 : PySem.W.nsIn K mainGlobals "Unjudged" = some (some (.ref C6)))
    (xC6 : K.lookup C6 = some (excClassObj nm6 qn6 C6 N6 bs6 [.ref CP, .type "Exception", .type "BaseException", .type "object"] true sn6 sub6 ab6 col6 dd6 k06 k16 k26 k36 k56 "Exception.__new__"))
    (oC6 : clsOk K C6 = true)
    (aC7 : PySem.W.nsIn K mainGlobals "NoLanguage" = some (some (.ref C7)))
    (xC7 : K.lookup C7 = some (excClassObj nm7 qn7 C7 N7 bs7 [.ref CP, .type "Exception", .type "BaseException", .type "object"] true sn7 sub7 ab7 col7 dd7 k07 k17 k27 k37 k57 "Exception.__new__"))
    (oC7 : clsOk K C7 = true)
    (aC8 : PySem.W.nsIn K mainGlobals "OtherLetters" = some (some (.ref C8)))
    (xC8 : K.lookup C8 = some (excClassObj nm8 qn8 C8 N8 bs8 [.ref CP, .type "Exception", .type "BaseException", .type "object"] true sn8 sub8 ab8 col8 dd8 k08 k18 k28 k38 k58 "Exception.__new__"))
    (oC8 : clsOk K C8 = true)
    (aC9 : PySem.W.nsIn K mainGlobals "NothingToUndo" = some (some (.ref C9)))
    (xC9 : K.lookup C9 = some (excClassObj nm9 qn9 C9 N9 bs9 [.ref CP, .type "Exception", .type "BaseException", .type "object"] true sn9 sub9 ab9 col9 dd9 k09 k19 k29 k39 k59 "Exception.__new__"))
    (oC9 : clsOk K C9 = true)
    (aC10 : PySem.W.nsIn K mainGlobals "InvalidCommand" = some (some (.ref C10)))
    (xC10 : K.lookup C10 = some (excClassObj nm10 qn10 C10 N10 bs10 [.ref CP, .type "Exception", .type "BaseException", .type "object"] true sn10 sub10 ab10 col10 dd10 k010 k110 k210 k310 k510 "Exception.__new__"))
    (oC10 : clsOk K C10 = true)
    (kit : kitOk K [C0, C1, C2, C3, C4, C5, C6, C7, C8, C9, C10] CP = true)
    (nI0 : PySem.W.findIn K (.ref C0) "part" = some none)
    (iI0 : PySem.W.findIn K (.ref C0) "__init__" = some (some (.ref fI0)))
    (tI0 : PySem.W.typeIn K (.ref fI0) = some (.type "function"))
    (lI0 : K.lookup fI0 = some ⟨ocI0, odI0, .func (PySem.W.fnOf "__init__" "BadLanguage.__init__" (defArgs sI0) (defBody sI0) (defScope sI0) .none kVI0 dcI0 pmI0 anI0 cdI0 ctI0), slI0⟩)
    (cI0 : PySem.W.codeIn K cdI0 "BadLanguage.__init__" = true)
    (kI0 : PySem.W.keepIn K (.ref fI0) = true)
    (nI1 : PySem.W.findIn K (.ref C1) "line" = some none)
    (iI1 : PySem.W.findIn K (.ref C1) "__init__" = some (some (.ref fI1)))
    (tI1 : PySem.W.typeIn K (.ref fI1) = some (.type "function"))
    (lI1 : K.lookup fI1 = some ⟨ocI1, odI1, .func (PySem.W.fnOf "__init__" "BadLine.__init__" (defArgs sI1) (defBody sI1) (defScope sI1) .none kVI1 dcI1 pmI1 anI1 cdI1 ctI1), slI1⟩)
    (cI1 : PySem.W.codeIn K cdI1 "BadLine.__init__" = true)
    (kI1 : PySem.W.keepIn K (.ref fI1) = true)
    (nI2 : PySem.W.findIn K (.ref C2) "value" = some none)
    (iI2 : PySem.W.findIn K (.ref C2) "__init__" = some (some (.ref fI2)))
    (tI2 : PySem.W.typeIn K (.ref fI2) = some (.type "function"))
    (lI2 : K.lookup fI2 = some ⟨ocI2, odI2, .func (PySem.W.fnOf "__init__" "BadText.__init__" (defArgs sI2) (defBody sI2) (defScope sI2) .none kVI2 dcI2 pmI2 anI2 cdI2 ctI2), slI2⟩)
    (cI2 : PySem.W.codeIn K cdI2 "BadText.__init__" = true)
    (kI2 : PySem.W.keepIn K (.ref fI2) = true)
    (nI3 : PySem.W.findIn K (.ref C3) "value" = some none)
    (iI3 : PySem.W.findIn K (.ref C3) "__init__" = some (some (.ref fI3)))
    (tI3 : PySem.W.typeIn K (.ref fI3) = some (.type "function"))
    (lI3 : K.lookup fI3 = some ⟨ocI3, odI3, .func (PySem.W.fnOf "__init__" "BadView.__init__" (defArgs sI3) (defBody sI3) (defScope sI3) .none kVI3 dcI3 pmI3 anI3 cdI3 ctI3), slI3⟩)
    (cI3 : PySem.W.codeIn K cdI3 "BadView.__init__" = true)
    (kI3 : PySem.W.keepIn K (.ref fI3) = true)
    (nI4 : PySem.W.findIn K (.ref C4) "place" = some none)
    (iI4 : PySem.W.findIn K (.ref C4) "__init__" = some (some (.ref fI4)))
    (tI4 : PySem.W.typeIn K (.ref fI4) = some (.type "function"))
    (lI4 : K.lookup fI4 = some ⟨ocI4, odI4, .func (PySem.W.fnOf "__init__" "BadPlace.__init__" (defArgs sI4) (defBody sI4) (defScope sI4) .none kVI4 dcI4 pmI4 anI4 cdI4 ctI4), slI4⟩)
    (cI4 : PySem.W.codeIn K cdI4 "BadPlace.__init__" = true)
    (kI4 : PySem.W.keepIn K (.ref fI4) = true)
    (nI5 : PySem.W.findIn K (.ref C5) "paper" = some none)
    (iI5 : PySem.W.findIn K (.ref C5) "__init__" = some (some (.ref fI5)))
    (tI5 : PySem.W.typeIn K (.ref fI5) = some (.type "function"))
    (lI5 : K.lookup fI5 = some ⟨ocI5, odI5, .func (PySem.W.fnOf "__init__" "NoJudge.__init__" (defArgs sI5) (defBody sI5) (defScope sI5) .none kVI5 dcI5 pmI5 anI5 cdI5 ctI5), slI5⟩)
    (cI5 : PySem.W.codeIn K cdI5 "NoJudge.__init__" = true)
    (kI5 : PySem.W.keepIn K (.ref fI5) = true)
    (nI6 : PySem.W.findIn K (.ref C6) "pair" = some none)
    (iI6 : PySem.W.findIn K (.ref C6) "__init__" = some (some (.ref fI6)))
    (tI6 : PySem.W.typeIn K (.ref fI6) = some (.type "function"))
    (lI6 : K.lookup fI6 = some ⟨ocI6, odI6, .func (PySem.W.fnOf "__init__" "Unjudged.__init__" (defArgs sI6) (defBody sI6) (defScope sI6) .none kVI6 dcI6 pmI6 anI6 cdI6 ctI6), slI6⟩)
    (cI6 : PySem.W.codeIn K cdI6 "Unjudged.__init__" = true)
    (kI6 : PySem.W.keepIn K (.ref fI6) = true)
    (nI7 : PySem.W.findIn K (.ref C7) "name" = some none)
    (iI7 : PySem.W.findIn K (.ref C7) "__init__" = some (some (.ref fI7)))
    (tI7 : PySem.W.typeIn K (.ref fI7) = some (.type "function"))
    (lI7 : K.lookup fI7 = some ⟨ocI7, odI7, .func (PySem.W.fnOf "__init__" "NoLanguage.__init__" (defArgs sI7) (defBody sI7) (defScope sI7) .none kVI7 dcI7 pmI7 anI7 cdI7 ctI7), slI7⟩)
    (cI7 : PySem.W.codeIn K cdI7 "NoLanguage.__init__" = true)
    (kI7 : PySem.W.keepIn K (.ref fI7) = true)
    (iI8 : PySem.W.findIn K (.ref C8) "__init__" = some (some (.builtin "Exception.__init__")))
    (iI9 : PySem.W.findIn K (.ref C9) "__init__" = some (some (.builtin "Exception.__init__")))
    (iI10 : PySem.W.findIn K (.ref C10) "__init__" = some (some (.builtin "Exception.__init__")))
    (aD : PySem.W.nsIn K mainGlobals "_law_deck" = some (some (.ref fD)))
    (lD : K.lookup fD = some ⟨ocD, odD, .func (PySem.W.fnOf "_law_deck" "_law_deck" (defArgs sDeck) (defBody sDeck) (defScope sDeck) .none kVD dcD pmD anD cdD ctD), slD⟩)
    (cD : PySem.W.codeIn K cdD "_law_deck" = true)
    (kD : PySem.W.keepIn K (.ref fD) = true)
    (aW : PySem.W.nsIn K mainGlobals "_law_draw" = some (some (.ref fW)))
    (lW : K.lookup fW = some ⟨ocW, odW, .func (PySem.W.fnOf "_law_draw" "_law_draw" (defArgs sDraw) (defBody sDraw) (defScope sDraw) .none kVW dcW pmW anW cdW ctW), slW⟩)
    (cW : PySem.W.codeIn K cdW "_law_draw" = true)
    (kW : PySem.W.keepIn K (.ref fW) = true)
    (aP : PySem.W.nsIn K mainGlobals "_law_pick" = some (some (.ref fP)))
    (lP : K.lookup fP = some ⟨ocP, odP, .func (PySem.W.fnOf "_law_pick" "_law_pick" (defArgs sPick) (defBody sPick) (defScope sPick) .none kVP dcP pmP anP cdP ctP), slP⟩)
    (cP : PySem.W.codeIn K cdP "_law_pick" = true)
    (kP : PySem.W.keepIn K (.ref fP) = true)
    (aV : PySem.W.nsIn K mainGlobals "_law_value" = some (some (.ref fV)))
    (lV : K.lookup fV = some ⟨ocV, odV, .func (PySem.W.fnOf "_law_value" "_law_value" (defArgs sValue) (defBody sValue) (defScope sValue) .none kVV dcV pmV anV cdV ctV), slV⟩)
    (cV : PySem.W.codeIn K cdV "_law_value" = true)
    (kV : PySem.W.keepIn K (.ref fV) = true)
    (aM : PySem.W.nsIn K mainGlobals "_law_made" = some (some (.ref fM)))
    (lM : K.lookup fM = some ⟨ocM, odM, .func (PySem.W.fnOf "_law_made" "_law_made" (defArgs sMade) (defBody sMade) (defScope sMade) .none kVM dcM pmM anM cdM ctM), slM⟩)
    (cM : PySem.W.codeIn K cdM "_law_made" = true)
    (kM : PySem.W.keepIn K (.ref fM) = true)
    (aB : PySem.W.nsIn K mainGlobals "_law_borne" = some (some (.ref fB)))
    (lB : K.lookup fB = some ⟨ocB, odB, .func (PySem.W.fnOf "_law_borne" "_law_borne" (defArgs sBorne) (defBody sBorne) (defScope sBorne) .none kVB dcB pmB anB cdB ctB), slB⟩)
    (cB : PySem.W.codeIn K cdB "_law_borne" = true)
    (kB : PySem.W.keepIn K (.ref fB) = true)
    (aR : PySem.W.nsIn K mainGlobals "_law_sorts" = some (some (.ref fR)))
    (lR : K.lookup fR = some ⟨ocR, odR, .func (PySem.W.fnOf "_law_sorts" "_law_sorts" (defArgs sSorts) (defBody sSorts) (defScope sSorts) .none kVR dcR pmR anR cdR ctR), slR⟩)
    (cR : PySem.W.codeIn K cdR "_law_sorts" = true)
    (kR : PySem.W.keepIn K (.ref fR) = true)
    (aS : PySem.W.nsIn K mainGlobals "_law_is_sound" = some (some (.ref fS)))
    (lS : K.lookup fS = some ⟨ocS, odS, .func (PySem.W.fnOf "_law_is_sound" "_law_is_sound" (defArgs sSound) (defBody sSound) (defScope sSound) .none kVS dcS pmS anS cdS ctS), slS⟩)
    (cS : PySem.W.codeIn K cdS "_law_is_sound" = true)
    (kS : PySem.W.keepIn K (.ref fS) = true)
    (aC : PySem.W.nsIn K mainGlobals "_law_caught" = some (some (.ref fC)))
    (lC : K.lookup fC = some ⟨ocC, odC, .func (PySem.W.fnOf "_law_caught" "_law_caught" (defArgs sCaught) (defBody sCaught) (defScope sCaught) .none kVC dcC pmC anC cdC ctC), slC⟩)
    (cC : PySem.W.codeIn K cdC "_law_caught" = true)
    (kC : PySem.W.keepIn K (.ref fC) = true)
    (aL : PySem.W.nsIn K mainGlobals "law" = some (some (.ref fL)))
    (lL : K.lookup fL = some ⟨ocL, odL, .func (PySem.W.fnOf "law" "law" (defArgs sLaw) (defBody sLaw) (defScope sLaw) .none kVL dcL pmL anL cdL ctL), slL⟩)
    (cL : PySem.W.codeIn K cdL "law" = true)
    (kL : PySem.W.keepIn K (.ref fL) = true)
    (z_list : PySem.W.nsIn K mainGlobals "list" = some none)
    (z_int : PySem.W.nsIn K mainGlobals "int" = some none)
    (z_len : PySem.W.nsIn K mainGlobals "len" = some none)
    (z_range : PySem.W.nsIn K mainGlobals "range" = some none)
    (z_tuple : PySem.W.nsIn K mainGlobals "tuple" = some none)
    (z_isinstance : PySem.W.nsIn K mainGlobals "isinstance" = some none)
    (z_ValueError : PySem.W.nsIn K mainGlobals "ValueError" = some none)
    (z_TypeError : PySem.W.nsIn K mainGlobals "TypeError" = some none)
    (z_LookupError : PySem.W.nsIn K mainGlobals "LookupError" = some none)
    (z_ArithmeticError : PySem.W.nsIn K mainGlobals "ArithmeticError" = some none)
    (z_RuntimeError : PySem.W.nsIn K mainGlobals "RuntimeError" = some none)
    (z_repr : PySem.W.nsIn K mainGlobals "repr" = some none)
    (z_enumerate : PySem.W.nsIn K mainGlobals "enumerate" = some none) :
    ∃ fd : FuncData, (∀ (s : Shared) (v : Value), BindsTo s fd ⟨[v], []⟩ [("_law_script", v)]) ∧ ∀ base : Heap, K.In base → base.Ns mainGlobals mg → FnG l.prog w K mg base 7 fa fd ["_law_script"] (spLaw K) := by
  have e := hfa.symm.trans (PySem.W.mg_of X G aL)
  cases e
  have FD := fun_mk (st := sDeck) lD cD kD
  have bD := FD.binds (ps := ["_law_script"]) fun _ _ _ _ _ _ us hl => match us, hl with | [_], _ => rfl
  have FW := fun_mk (st := sDraw) lW cW kW
  have bW := FW.binds (ps := ["_law_deck_here", "_law_below"]) fun _ _ _ _ _ _ us hl => match us, hl with | [_, _], _ => rfl
  have FP := fun_mk (st := sPick) lP cP kP
  have bP := FP.binds (ps := ["_law_deck_here", "_law_some"]) fun _ _ _ _ _ _ us hl => match us, hl with | [_, _], _ => rfl
  have FV := fun_mk (st := sValue) lV cV kV
  have bV := FV.binds (ps := ["_law_deck_here", "_law_deep"]) fun _ _ _ _ _ _ us hl => match us, hl with | [_, _], _ => rfl
  have FM := fun_mk (st := sMade) lM cM kM
  have bM := FM.binds (ps := ["_law_it"]) fun _ _ _ _ _ _ us hl => match us, hl with | [_], _ => rfl
  have FB := fun_mk (st := sBorne) lB cB kB
  have bB := FB.binds (ps := ["_law_number", "_law_error"]) fun _ _ _ _ _ _ us hl => match us, hl with | [_, _], _ => rfl
  have FR := fun_mk (st := sSorts) lR cR kR
  have bR := FR.binds (ps := ["_law_error"]) fun _ _ _ _ _ _ us hl => match us, hl with | [_], _ => rfl
  have FS := fun_mk (st := sSound) lS cS kS
  have bS := FS.binds (ps := ["_law_error", "_law_number"]) fun _ _ _ _ _ _ us hl => match us, hl with | [_, _], _ => rfl
  have FC := fun_mk (st := sCaught) lC cC kC
  have bC := FC.binds (ps := ["_law_number"]) fun _ _ _ _ _ _ us hl => match us, hl with | [_], _ => rfl
  have FL := fun_mk (st := sLaw) lL cL kL
  have hk := kit_row kit
  have x0 := oexE_of xC0 oC0
  have x1 := oexE_of xC1 oC1
  have x2 := oexE_of xC2 oC2
  have x3 := oexE_of xC3 oC3
  have x4 := oexE_of xC4 oC4
  have x5 := oexE_of xC5 oC5
  have x6 := oexE_of xC6 oC6
  have x7 := oexE_of xC7 oC7
  have x8 := oexE_of xC8 oC8
  have x9 := oexE_of xC9 oC9
  have x10 := oexE_of xC10 oC10
  refine ⟨PySem.W.fnOf "law" "law" (defArgs sLaw) (defBody sLaw) (defScope sLaw) .none kVL dcL pmL anL cdL ctL, fun s v => .of_eq rfl, fun base _ _ => ?_⟩
  have TD : TxtD mg fW := ⟨PySem.W.mg_none_of X G z_list, PySem.W.mg_none_of X G z_int, PySem.W.mg_none_of X G z_len, PySem.W.mg_of X G aW⟩
  have TV : TxtV mg fW fP fV := ⟨TD, PySem.W.mg_of X G aP, PySem.W.mg_of X G aV, PySem.W.mg_none_of X G z_range, PySem.W.mg_none_of X G z_tuple⟩
  have TE : TxtE l.prog w K mg base (fun i => ([C0, C1, C2, C3, C4, C5, C6, C7, C8, C9, C10] : List Addr).getD i 0) CP :=
    ⟨exK0 x0 nI0 iI0 tI0 lI0 cI0 kI0, exK1 x1 nI1 iI1 tI1 lI1 cI1 kI1, exK2 x2 nI2 iI2 tI2 lI2 cI2 kI2, exK3 x3 nI3 iI3 tI3 lI3 cI3 kI3, exK4 x4 nI4 iI4 tI4 lI4 cI4 kI4, exK5 x5 nI5 iI5 tI5 lI5 cI5 kI5, exK6 x6 nI6 iI6 tI6 lI6 cI6 kI6, exK7 x7 nI7 iI7 tI7 lI7 cI7 kI7, ⟨x8, iI8⟩, ⟨x9, iI9⟩, ⟨x10, iI10⟩, (fun i hi => match i, hi with | 0, _ => x0 | 1, _ => x1 | 2, _ => x2 | 3, _ => x3 | 4, _ => x4 | 5, _ => x5 | 6, _ => x6 | 7, _ => x7 | 8, _ => x8 | 9, _ => x9 | 10, _ => x10 | i + 11, hi => absurd hi (by omega)), PySem.W.mg_of X G aC0, PySem.W.mg_of X G aC1, PySem.W.mg_of X G aC2, PySem.W.mg_of X G aC3, PySem.W.mg_of X G aC4, PySem.W.mg_of X G aC5, PySem.W.mg_of X G aC6, PySem.W.mg_of X G aC7, PySem.W.mg_of X G aC8, PySem.W.mg_of X G aC9, PySem.W.mg_of X G aC10, PySem.W.mg_of X G aCP, (fun i j hi hj => (hk i hi).1 j hj), (fun i hi => (hk i hi).2.1), (fun i hi => (hk i hi).2.2.1), (fun i hi => (hk i hi).2.2.2), PySem.W.mg_none_of X G z_isinstance, PySem.W.mg_none_of X G z_ValueError, PySem.W.mg_none_of X G z_TypeError, PySem.W.mg_none_of X G z_LookupError, PySem.W.mg_none_of X G z_ArithmeticError, PySem.W.mg_none_of X G z_RuntimeError, PySem.W.mg_none_of X G z_range⟩
  have TL : TxtL l.prog w K mg base (fun i => ([C0, C1, C2, C3, C4, C5, C6, C7, C8, C9, C10] : List Addr).getD i 0) CP fD fV fM fB fS fC := ⟨TE, PySem.W.mg_of X G aD, PySem.W.mg_of X G aV, PySem.W.mg_of X G aM, PySem.W.mg_of X G aB, PySem.W.mg_of X G aS, PySem.W.mg_of X G aC, PySem.W.mg_none_of X G z_repr, PySem.W.mg_none_of X G z_enumerate⟩
  have GW := ok_draw (P := l.prog) (w := w) (base := base) FW TD
  have GP := ok_pick (P := l.prog) (w := w) (base := base) FP FW bW TD
  have V0 : FnOk l.prog w K mg base CX0 2 fV (PySem.W.fnOf "_law_value" "_law_value" (defArgs sValue) (defBody sValue) (defScope sValue) .none kVV dcV pmV anV cdV ctV) ["_law_deck_here", "_law_deep"] (spVal 0) := none_val
  have V1 := ok_value (n := 0) FV V0 bV GW bW FW.kp GP bP FP.kp TV
  have V2 := ok_value (n := 1) FV V1 bV GW bW FW.kp GP bP FP.kp TV
  have V3 := ok_value (n := 2) FV V2 bV GW bW FW.kp GP bP FP.kp TV
  have V4 := ok_value (n := 3) FV V3 bV GW bW FW.kp GP bP FP.kp TV
  exact ok_law FL TL (ok_deck FD TD) bD FD.kp V4 bV FV.kp (ok_made FM TE) bM FM.kp (ok_borne FB TE) bB FB.kp (ok_sound FS TE FR bR (PySem.W.mg_of X G aR)) bS FS.kp (ok_caught FC TE FR (fun s u => .of_eq rfl) (PySem.W.mg_of X G aR)) bC FC.kp
end
theorem walk {l : PySem.W.OpenLaw} {q : Program} {loose : List Str} {XP : (Str → Option Value) → Heap → Prop} {YP : World → Heap → Prop} {d : DefRec} {K : Params → PySem.W.Frag} (hn : l.most = some 63) (hdf : d.params.defaults = [])
    (hY : ∀ (w : World) (h : Heap), YP w h → (K w.params).In h)
    (F : ∀ (w : World) (mg : Str → Option Value) (fa : Addr) (h : Heap), (K w.params).In h → h.Ns mainGlobals mg → mg d.name = some (.ref fa) →
      ∃ fd : FuncData, (∀ (s : Shared) (u : Value), BindsTo s fd ⟨[u], []⟩ [("_law_script", u)]) ∧ ∀ base : Heap, (K w.params).In base → base.Ns mainGlobals mg → FnG l.prog w (K w.params) mg base 7 fa fd ["_law_script"] (spLaw (K w.params))) :
    PySem.W.WalkO q loose XP YP l.row.toRowW d [] (fun f vs => PySem.call f vs) :=
  walk_ofG (n := 63) (k := 7) (x := "_law_script") (sp := fun w => spLaw (K w.params)) hn (by decide) hdf ⟨rfl, by decide, by decide⟩ hY F (fun _ _ a ns hl _ hS => ⟨a, ns, rfl, hS, hl, fun _ => rfl⟩)
end Vf
open PySem PySem.W PyProof.Rows
set_option maxRecDepth 100000 in
set_option maxHeartbeats 0 in
theorem PySem.Challenge.cw_piecesseen_k01_errors_holds : PySem.Challenge.rw_piecesseen_k01_errors.Holds := by
  w_on; o_law; k_head; (case hw => w_witness2)
  k_fill
  refine Vf.walk (l := PySem.Challenge.rw_piecesseen_k01_errors) rfl rfl (fun w h Y => PySem.W.kIn_of Y) ?F
  case F =>
    intro w mg fa h KX G hmg
    refine' Vf.all_mk KX G hmg ?aCP ?aC0 ?xC0 ?oC0 ?aC1 ?xC1 ?oC1 ?aC2 ?xC2 ?oC2 ?aC3 ?xC3 ?oC3 ?aC4 ?xC4 ?oC4 ?aC5 ?xC5 ?oC5 ?aC6 ?xC6 ?oC6 ?aC7 ?xC7 ?oC7 ?aC8 ?xC8 ?oC8 ?aC9 ?xC9 ?oC9 ?aC10 ?xC10 ?oC10 ?kit ?nI0 ?iI0 ?tI0 ?lI0 ?cI0 ?kI0 ?nI1 ?iI1 ?tI1 ?lI1 ?cI1 ?kI1 ?nI2 ?iI2 ?tI2 ?lI2 ?cI2 ?kI2 ?nI3 ?iI3 ?tI3 ?lI3 ?cI3 ?kI3 ?nI4 ?iI4 ?tI4 ?lI4 ?cI4 ?kI4 ?nI5 ?iI5 ?tI5 ?lI5 ?cI5 ?kI5 ?nI6 ?iI6 ?tI6 ?lI6 ?cI6 ?kI6 ?nI7 ?iI7 ?tI7 ?lI7 ?cI7 ?kI7 ?iI8 ?iI9 ?iI10 ?aD ?lD ?cD ?kD ?aW ?lW ?cW ?kW ?aP ?lP ?cP ?kP ?aV ?lV ?cV ?kV ?aM ?lM ?cM ?kM ?aB ?lB ?cB ?kB ?aR ?lR ?cR ?kR ?aS ?lS ?cS ?kS ?aC ?lC ?cC ?kC ?aL ?lL ?cL ?kL ?z_list ?z_int ?z_len ?z_range ?z_tuple ?z_isinstance ?z_ValueError ?z_TypeError ?z_LookupError ?z_ArithmeticError ?z_RuntimeError ?z_repr ?z_enumerate
    (case aCP => k_is)
    (case aC0 => k_is)
    (case xC0 => k_is)
    (case oC0 => kernel_rfl)
    (case aC1 => k_is)
    (case xC1 => k_is)
    (case oC1 => kernel_rfl)
    (case aC2 => k_is)
    (case xC2 => k_is)
    (case oC2 => kernel_rfl)
    (case aC3 => k_is)
    (case xC3 => k_is)
    (case oC3 => kernel_rfl)
    (case aC4 => k_is)
    (case xC4 => k_is)
    (case oC4 => kernel_rfl)
    (case aC5 => k_is)
    (case xC5 => k_is)
    (case oC5 => kernel_rfl)
    (case aC6 => k_is)
    (case xC6 => k_is)
    (case oC6 => kernel_rfl)
    (case aC7 => k_is)
    (case xC7 => k_is)
    (case oC7 => kernel_rfl)
    (case aC8 => k_is)
    (case xC8 => k_is)
    (case oC8 => kernel_rfl)
    (case aC9 => k_is)
    (case xC9 => k_is)
    (case oC9 => kernel_rfl)
    (case aC10 => k_is)
    (case xC10 => k_is)
    (case oC10 => kernel_rfl)
    (case kit => kernel_rfl)
    (case nI0 => k_is)
    (case iI0 => k_is)
    (case tI0 => k_is)
    (case lI0 => k_is)
    (case cI0 => k_is)
    (case kI0 => k_is)
    (case nI1 => k_is)
    (case iI1 => k_is)
    (case tI1 => k_is)
    (case lI1 => k_is)
    (case cI1 => k_is)
    (case kI1 => k_is)
    (case nI2 => k_is)
    (case iI2 => k_is)
    (case tI2 => k_is)
    (case lI2 => k_is)
    (case cI2 => k_is)
    (case kI2 => k_is)
    (case nI3 => k_is)
    (case iI3 => k_is)
    (case tI3 => k_is)
    (case lI3 => k_is)
    (case cI3 => k_is)
    (case kI3 => k_is)
    (case nI4 => k_is)
    (case iI4 => k_is)
    (case tI4 => k_is)
    (case lI4 => k_is)
    (case cI4 => k_is)
    (case kI4 => k_is)
    (case nI5 => k_is)
    (case iI5 => k_is)
    (case tI5 => k_is)
    (case lI5 => k_is)
    (case cI5 => k_is)
    (case kI5 => k_is)
    (case nI6 => k_is)
    (case iI6 => k_is)
    (case tI6 => k_is)
    (case lI6 => k_is)
    (case cI6 => k_is)
    (case kI6 => k_is)
    (case nI7 => k_is)
    (case iI7 => k_is)
    (case tI7 => k_is)
    (case lI7 => k_is)
    (case cI7 => k_is)
    (case kI7 => k_is)
    (case iI8 => k_is)
    (case iI9 => k_is)
    (case iI10 => k_is)
    (case aD => k_is)
    (case lD => k_is)
    (case cD => k_is)
    (case kD => k_is)
    (case aW => k_is)
    (case lW => k_is)
    (case cW => k_is)
    (case kW => k_is)
    (case aP => k_is)
    (case lP => k_is)
    (case cP => k_is)
    (case kP => k_is)
    (case aV => k_is)
    (case lV => k_is)
    (case cV => k_is)
    (case kV => k_is)
    (case aM => k_is)
    (case lM => k_is)
    (case cM => k_is)
    (case kM => k_is)
    (case aB => k_is)
    (case lB => k_is)
    (case cB => k_is)
    (case kB => k_is)
    (case aR => k_is)
    (case lR => k_is)
    (case cR => k_is)
    (case kR => k_is)
    (case aS => k_is)
    (case lS => k_is)
    (case cS => k_is)
    (case kS => k_is)
    (case aC => k_is)
    (case lC => k_is)
    (case cC => k_is)
    (case kC => k_is)
    (case aL => k_is)
    (case lL => k_is)
    (case cL => k_is)
    (case kL => k_is)
    (case z_list => k_is)
    (case z_int => k_is)
    (case z_len => k_is)
    (case z_range => k_is)
    (case z_tuple => k_is)
    (case z_isinstance => k_is)
    (case z_ValueError => k_is)
    (case z_TypeError => k_is)
    (case z_LookupError => k_is)
    (case z_ArithmeticError => k_is)
    (case z_RuntimeError => k_is)
    (case z_repr => k_is)
    (case z_enumerate => k_is)
