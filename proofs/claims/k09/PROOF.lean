import PyProof.Rows.All
import Wide.All
import OpenK.AllK
import Wide.FinOn
import HandS.ForMost
import HandS.Strs
import HandS.SetFor
import HandS.SetTxt0
import HandS.Walk
import HandS.Style
import HandS.IsInst
import HandS.More
import HandS.ExcInit
import HandS.HotCalls
import HandS.WordsExc
import HandS.Codes
import PySem.Challenge.RW_piecesseen_k09_makers
import HandS.DictComp
import HandS.SetKeys
import KE.GoesMore
import KE.GoesEnum
import HandS.Replace
import HandS.Zip
import HandS.TupAny
import HandS.StrMore
import PyProof.Rows.StrCut
import HandS.SortInts
import HandS.TupSets
import PyProof.SeqIndex
import HandS.Dict
import HandS.Text
import PyProof.StrLawsFrom
import PyProof.Rows.StrBetween
import PyProof.FitsInt
import PyProof.Rows.StrJoinMade
import PyProof.P3Eq
import HandS.Property
import HandS.MakeKw
import HandS.MakeKwOnly
import HandS.Defaults
import OpenK.KOps
import OpenK.KWalk
import HandS.ExcIs
import HandS.ExcOwn
import HandS.TryOnly
import KE.KExcInit
import KE.KExcIs
import KE.KExcMake
import HandS.ForExc
import HandS.TryMany
import HandS.ExcField
import HandS.Star
import HandS.List
import HandS.RaiseMore
set_option Elab.async false
set_option linter.all false
set_option maxRecDepth 100000
set_option maxHeartbeats 4000000
namespace Vs
open PySem PySem.Spec PyProof.Rows L2
open PySem.Froz (SD sObj addTx tailTx sing TxOk)
/-! ### a set of texts, as it grows out of a text's signs -/
theorem tail_ris {ep : Nat} {es : Array (Int × Value)} {t : SetTable} {b : Bool} (r : Ris t.place.toList) : Ris (tailTx ep es t b).2.2.place.toList := by
  unfold tailTx
  split
  · exact relayAll_ris t es _
  · exact r
theorem tail_led {ep : Nat} {es : Array (Int × Value)} {t : SetTable} {b : Bool} : (tailTx ep es t b).2.2.led = t.led := by
  unfold tailTx
  split
  · exact relayAll_led t es _
  · rfl
theorem add_ris {h : Int} {v : Value} {D : SD} (r : Ris D.2.2.place.toList) : Ris (addTx h v D).2.2.place.toList := by
  unfold addTx
  refine tail_ris ?_
  have q := layNew_ris D.2.2 D.1 h v r
  split <;> exact q
theorem add_led {h : Int} {v : Value} {D : SD} : (addTx h v D).2.2.led = D.2.2.led := by
  unfold addTx
  refine tail_led.trans ?_
  have q := layNew_led D.2.2 D.1 h v
  split <;> exact q
/-- the payload D holds just the texts l, each once, and can be walked -/
structure Tx (P : Program) (w : World) (D : SD) (l : List Str) : Prop where
  ok : TxOk P w D l
  ris : Ris D.2.2.place.toList
  led : w.params.followText "set-order" = true ∨ D.2.2.led = true
  nd : l.Nodup
section
variable {P : Program} {w : World} {A : Around} {E : Value → Shared → Prop} {s : Shared}
theorem Tx.add {D : SD} {l : List Str} {k : Str} (u : Tok) (F : Tx P w D l) (hk : k ∉ l) : Tx P w (addTx (hashStr w k) (.str k u) D) (k :: l) :=
  ⟨Froz.add_ok u F.ok, add_ris F.ris, F.led.imp id fun z => add_led.trans z, List.nodup_cons.mpr ⟨hk, F.nd⟩⟩
/-- a text that is there already -/
theorem add_old {a : Addr} {T : String} {D : SD} {l : List Str} {k : Str} {u : Tok} {Q : Bool → Shared → Prop} (ho : s.heap.get? a = some (sObj T D)) (F : TxOk P w D l) (hk : k ∈ l) (hb : l.length < scanBound)
    (h : Q false s) : wpAny (model P w) A (setAddHashed a (.str k u) (hashStr w k)) Q E s := by
  obtain ⟨es, ep, t⟩ := D
  have hd : (sObj T (es, ep, t)).data = .set es ep t := rfl
  have hf : t.fits es.size = true := F.fit
  have hel : ElemsOf (strKind P w) es.toList := F.el
  have hb0 : es.size < scanBound := by
    have z : es.size = l.length := F.sz
    omega
  obtain ⟨e, he, hi⟩ := (F.mem k).mp hk
  unfold setAddHashed setAddHashedIn
  refine wpAny_holding (wpAny_bind (wpAny_setState_of ho hd hf ?_))
  dsimp only
  rw [byScan_of rfl hb0 hel]
  simp only [↓reduceIte]
  unfold setAddByScan
  refine wpAny_bind (wpAny_bind (wpAny_rule (wpAny_bind (wpAny_setScan_of (knd := strKind P w) (k := k) (Froz.is_str k u) ho hd hf hel ?_))))
  cases hr : List.findIdx? (fun e => (strKind P w).is k e.2) es.toList with
  | none =>
    have c := List.findIdx?_eq_none_iff.mp hr e he
    rw [hi] at c
    cases c
  | some j => exact wpAny_pure (wpAny_pure h)
/-- the texts of one sign each -/
abbrev parts (x : Str) : List Str := x.cps.toList.map sing
/-- the loop that puts them in -/
theorem loop_tx {I : Addr} {fp wr : List Addr} {G : Array GenState → Array GenState → Prop} {n : Nat} {x : Str} {St : Nat → Shared → Prop} {R : Result → Shared → Prop}
    (W : WalksS P w A.in1 I fp wr G n (SignAt x) St) (S : Addr) (hSf : S ∉ fp) (hn : n = x.cps.size) (hb : n + 1 < scanBound) :
    ∀ (m i : Nat) (s : Shared), n - i = m → i ≤ n → St i s → (∃ D l, s.heap.get? S = some (sObj "set" D) ∧ Tx P w D l ∧ l.length ≤ i ∧ ∀ k, k ∈ l ↔ k ∈ (parts x).take i) →
      (∀ s' D l, Moved (S :: wr) G s s' → s'.heap.get? S = some (sObj "set" D) → Tx P w D l → (∀ k, k ∈ l ↔ k ∈ parts x) → R (.ok (.ret .none)) s') →
      codeAny (model P w) A (.builtin "set.update.loop" ⟨[.ref S, .ref I], []⟩) R s := by
  have hSw : S ∉ wr := fun h => hSf (W.sub _ h)
  have more : ∀ b ∈ wr, b ∈ S :: wr := fun b => List.mem_cons_of_mem _
  have hpl : (parts x).length = n := by rw [List.length_map, Array.length_toList, hn]
  intro m
  induction m with
  | zero =>
    intro i s hm hi hst ⟨D, l, hS, F, hl, hmem⟩ hR
    obtain rfl : i = n := by omega
    refine codeAny_builtin PyProof.Rows.F.entry_set_update_loop ?_
    rw [Around.under_plainId PyProof.Rows.F.plain_set_update_loop _]
    refine wpAny_bind (W.done s _ _ hst fun s' mv => wpAny_pure (hR s' D l (mv.mono more) (mv.heap S _ hSw hS) F fun k => ?_))
    rw [hmem k, List.take_of_length_le (Nat.le_of_eq hpl)]
  | succ m ih =>
    intro i s hm hi hst ⟨D, l, hS, F, hl, hmem⟩ hR
    refine codeAny_builtin PyProof.Rows.F.entry_set_update_loop ?_
    rw [Around.under_plainId PyProof.Rows.F.plain_set_update_loop _]
    refine wpAny_bind (W.item i s _ _ (by omega) hst fun v s1 hP hst1 mv => ?_)
    obtain ⟨c, u, hc, rfl⟩ := hP
    have hS1 := mv.heap S _ hSw hS
    have hp : (parts x)[i]? = some (sing c) := by rw [List.getElem?_map, Array.getElem?_toList, hc]; rfl
    have hnx : ∀ k, k ∈ (parts x).take (i + 1) ↔ k ∈ l ∨ k = sing c := fun k => by
      rw [List.take_add_one, hp, List.mem_append, ← hmem k]
      simp
    refine wpAny_bind (wpAny_holding ?_)
    unfold setAdd
    refine wpAny_holding (wpAny_bind ((strKind P w).pyHash (k := sing c) (Froz.is_str _ _) ?_))
    by_cases hk : sing c ∈ l
    · refine add_old (s := { s1 with toks := s1.toks + 1 }) hS1 F.ok hk (by omega) ?_
      refine wpAny_pure ⟨plainId_quiet PyProof.Rows.F.plain_set_update_loop _, ih (i + 1) _ (by omega) (by omega) (W.frame _ s1 _ _ hst1 (Nat.le_succ _) fun b _ o e => e) ⟨D, l, hS1, F, by omega, fun k => ?_⟩ fun s2 D2 l2 mv2 hS2 F2 h2 => ?_⟩
      · rw [hnx k]
        exact ⟨.inl, fun z => z.elim id fun z => z ▸ hk⟩
      · exact hR s2 D2 l2 (Moved.trans W.gtrans ((mv.mono more).then_heap (Nat.le_succ _) fun b o _ e => e) mv2) hS2 F2 h2
    · refine Froz.add_x (s := { s1 with toks := s1.toks + 1 }) hS1 F.ok hk (by omega) ?_
      have hS2 : (s1.heap.update S (fun _ => sObj "set" (addTx (hashStr w (sing c)) (.str (sing c) u) D))).get? S = some (sObj "set" (addTx (hashStr w (sing c)) (.str (sing c) u) D)) := Froz.get_upd _ hS1 rfl
      have other : ∀ b o, b ≠ S → s1.heap.get? b = some o → (s1.heap.update S (fun _ => sObj "set" (addTx (hashStr w (sing c)) (.str (sing c) u) D))).get? b = some o := fun b o n e => (Heap.get?_update_other _ _ (Ne.symm n)).trans e
      refine wpAny_pure ⟨plainId_quiet PyProof.Rows.F.plain_set_update_loop _, ih (i + 1) _ (by omega) (by omega) (W.frame _ s1 _ _ hst1 (Nat.le_succ _) fun b hb' o e => other b o (fun z => hSf (z ▸ hb')) e) ⟨_, sing c :: l, hS2, F.add u hk, (by simp only [List.length_cons]; omega), fun k => ?_⟩ fun s2 D2 l2 mv2 hS3 F2 h2 => ?_⟩
      · rw [hnx k, List.mem_cons]
        exact Or.comm
      · exact hR s2 D2 l2 (Moved.trans W.gtrans ((mv.mono more).then_heap (Nat.le_succ _) fun b o nb e => other b o (fun z => nb (z ▸ List.mem_cons_self ..)) e) mv2) hS3 F2 h2
end
end Vs

set_option Elab.async false
set_option linter.all false
set_option maxRecDepth 100000
set_option maxHeartbeats 4000000
namespace Vs
open PySem PySem.Spec PyProof.Rows L2
open PySem.Froz (SD sObj addTx tailTx sing TxOk)
section
variable {P : Program} {w : World} {A : Around} {E : Value → Shared → Prop} {s : Shared}
/-- the empty payload of a new set -/
abbrev emptyD (w : World) : SD := (#[], 0, .fresh 0 0 (!w.params.followText "set-order"))
theorem tx_empty : Tx P w (emptyD w) [] := by
  refine ⟨TxOk.nil (by rfl), List.Pairwise.nil, ?_, List.nodup_nil⟩
  show _ ∨ (!w.params.followText "set-order") = true
  cases w.params.followText "set-order" <;> simp
/-- where set(v) goes once the new set stands: its __init__ -/
theorem set_by_init {v : Value} {Q : Value → Shared → Prop}
    (h : ∀ R : Result → Shared → Prop, (∀ s₂, Q (.ref s.heap.objs.size) s₂ → R (.ok (.ret .none)) s₂) → wpAny (model P w) A.in1.in1 (Builtin.«set.__init__» ⟨[.ref s.heap.objs.size, v], []⟩)
      (fun fin s' => match fin with | .done f => R (.ok f) s' | .again c' => c'.quiet = true ∧ codeAny (model P w) A.in1 c' R s') (fun e s' => R (.error e) s') { s with heap := s.heap.push (sObj "set" (emptyD w)) }) :
    wpAny (model P w) A (call (.type "set") [v]) Q E s := by
  obtain ⟨c, tl, hmro⟩ := F.called_set.mro
  have g1 := F.called_set.made
  have g2 := F.called_set.sub
  have g3 := F.called_set.notType
  have g4 := F.called_set.canCreate
  have g5 := F.typeCall_set_1 v
  refine wpAny_call (codeAny_of_tree ?_)
  refine wpAny_pure ⟨Code.quiet_builtin _ (by decide +kernel), codeAny_builtin F.entry_type_call ?_⟩
  rw [Around.under_plain (weight_type_call_type "set" [v] []) rfl]
  repeat (any_goals (first | assumption | wp_step))
  refine codeAny_mono (code_set_led1 v (E := E) (Q₁ := fun obj s₁ => obj = .ref s.heap.objs.size ∧ s₁ = { s with heap := s.heap.push (sObj "set" (emptyD w)) }) ⟨rfl, rfl⟩) fun r s₁ hr => ?_
  match r, hr with
  | .ok (.ret obj), hr =>
    obtain ⟨rfl, rfl⟩ := hr
    have hS : (s.heap.push (sObj "set" (emptyD w))).get? s.heap.objs.size = some (sObj "set" (emptyD w)) := Heap.get?_push_size _ rfl
    have hT : Shared.TypeIs { s with heap := s.heap.push (sObj "set" (emptyD w)) } (.ref s.heap.objs.size) "set" := ⟨_, hS, rfl⟩
    have g6 := F.called_set.init.lookup
    have g7 := F.called_set.init.bind (.ref s.heap.objs.size)
    repeat (any_goals (first | assumption | wp_step))
    refine codeAny_mono (codeAny_call_builtin (R := wants (fun r s₂ => r = .none ∧ Q (.ref s.heap.objs.size) s₂) E) F.called_set.init.plain F.entry_set_init (check_set_init_1 hT (h _ fun s₂ q => ⟨rfl, q⟩))) fun r₂ s₂ hr₂ => ?_
    match r₂, hr₂ with
    | .ok (.ret _), hr₂ =>
      obtain ⟨rfl, q⟩ := hr₂
      repeat (any_goals (first | assumption | wp_step))
    | .error e, hr₂ => exact hr₂
    | .ok .next, hr₂ => exact hr₂.elim
    | .ok .brk, hr₂ => exact hr₂.elim
    | .ok .cont, hr₂ => exact hr₂.elim
  | .error e, hr => exact hr
  | .ok .next, hr => exact hr.elim
  | .ok .brk, hr => exact hr.elim
  | .ok .cont, hr => exact hr.elim
end
end Vs

set_option Elab.async false
set_option linter.all false
set_option maxRecDepth 100000
set_option maxHeartbeats 4000000
namespace Vs
open PySem PySem.Spec PyProof.Rows L2
open PySem.Froz (SD sObj addTx tailTx sing TxOk)
section
variable {P : Program} {w : World} {A : Around} {E : Value → Shared → Prop} {s : Shared}
theorem sub_str_set : isSubtype (.type "str") (.type "set") = pure false := by rw [isSubtype_type]; kernel_rfl
theorem sub_str_frozenset : isSubtype (.type "str") (.type "frozenset") = pure false := by rw [isSubtype_type]; kernel_rfl
/-- set(text) -/
theorem call_set_text {x : Str} {u : Tok} {Q : Value → Shared → Prop} (hh : A.handled = none) (hb : x.cps.size + 1 < scanBound)
    (h : ∀ (s' : Shared) D l, (∀ b o, s.heap.get? b = some o → s'.heap.get? b = some o) → s'.gens = s.gens → s'.os = s.os → s'.heap.get? s.heap.objs.size = some (sObj "set" D) → Tx P w D l → (∀ k, k ∈ l ↔ k ∈ parts x) → Q (.ref s.heap.objs.size) s') :
    wpAny (model P w) A (call (.type "set") [.str x u]) Q E s := by
  refine set_by_init fun R hR => ?_
  have hS : (s.heap.push (sObj "set" (emptyD w))).get? s.heap.objs.size = some (sObj "set" (emptyD w)) := Heap.get?_push_size _ rfl
  have hz : (s.heap.push (sObj "set" (emptyD w))).objs.size = s.heap.objs.size + 1 := Heap.size_push ..
  have hold : ∀ b o, s.heap.get? b = some o → (s.heap.push (sObj "set" (emptyD w))).get? b = some o := fun b o e => Heap.get?_push_of_some _ e
  have t1 := sub_str_set
  have t2 := sub_str_frozenset
  have t3 : (Value.type "str" == Value.type "dict") = false := by decide
  generalize s.heap.push (sObj "set" (emptyD w)) = h1 at hS hz hold ⊢
  unfold Builtin.«set.__init__» noKeywords Builtin.Frozenset.updateFrom
  generalize hPI : pyIter = PI
  wp_walk
  subst hPI
  refine wpAny_pyIter_str fun o St W hst => wpAny_bind (wpAny_runValue ?_)
  have hx : ∀ b u', h1.get? b = some u' → b ≠ h1.objs.size := fun b u' e => Nat.ne_of_lt (Heap.lt_size e)
  have hSf : s.heap.objs.size ∉ [h1.objs.size] := fun z => hx _ _ hS (List.mem_singleton.mp z)
  refine loop_tx (W _ (by simp [hh])).toS s.heap.objs.size hSf rfl hb _ 0 _ rfl (Nat.zero_le _) hst ⟨_, [], Heap.get?_push_of_some _ hS, tx_empty, Nat.le_refl _, fun k => by simp⟩ fun s2 D l mv hS2 F hm => ?_
  refine wpAny_pure (wpAny_pure (hR _ (h s2 D l (fun b o' e => ?_) mv.gens mv.os hS2 F hm)))
  refine mv.heap b o' (fun z => ?_) (Heap.get?_push_of_some _ (hold b o' e))
  rcases List.mem_cons.mp z with z | z
  · rw [z] at e
    exact Nat.lt_irrefl _ (Heap.lt_size e)
  · exact hx _ _ (hold b o' e) (List.mem_singleton.mp z)
/-! ### sorted(set of texts) -/
theorem strs_of : ∀ (l : List Value), (∀ v ∈ l, ∃ k tk, v = Value.str k tk) → StrsAre l (l.map strOf)
  | [], _ => .nil
  | v :: l, h => by
    obtain ⟨k, tk, rfl⟩ := h v (List.mem_cons_self ..)
    exact .cons k tk (strs_of l fun u hu => h u (List.mem_cons_of_mem _ hu))
theorem perm_same {α : Type} [DecidableEq α] : ∀ (l m : List α), l.Nodup → (∀ k ∈ l, k ∈ m) → m.length ≤ l.length → m.Perm l
  | [], m, _, _, h => by rw [List.length_eq_zero_iff.mp (Nat.le_zero.mp h)]
  | x :: l, m, d, s, h => by
    obtain ⟨d1, d2⟩ := List.nodup_cons.mp d
    have hx := s x (List.mem_cons_self ..)
    have p := List.perm_cons_erase hx
    have hl := p.length_eq
    simp only [List.length_cons] at hl h
    exact p.trans ((perm_same l (m.erase x) d2 (fun k hk => (List.mem_erase_of_ne fun z : k = x => d1 (by rw [← z]; exact hk)).mpr (s k (List.mem_cons_of_mem _ hk))) (by omega)).cons x)
theorem Tx.vals {D : SD} {l : List Str} (F : Tx P w D l) : (∀ e ∈ D.1.toList, ∃ k tk, e.2 = Value.str k tk ∧ k ∈ l) ∧ (D.1.toList.map fun e => strOf e.2).Perm l := by
  have h1 : ∀ e ∈ D.1.toList, ∃ k tk, e.2 = Value.str k tk ∧ k ∈ l := fun e he => by
    obtain ⟨⟨k, hk, _⟩, _⟩ := F.ok.el e he
    have hi : Value.isStrOf k e.2 = true := hk
    obtain ⟨hv, v⟩ := e
    cases v <;> simp [Value.isStrOf] at hi
    exact ⟨_, _, rfl, (F.ok.mem _).2 ⟨_, he, by subst hi; exact Froz.is_str _ _⟩⟩
  refine ⟨h1, ?_⟩
  have sub : ∀ k ∈ l, k ∈ D.1.toList.map fun e => strOf e.2 := fun k hk => by
    obtain ⟨e, he, hi⟩ := (F.ok.mem k).1 hk
    refine List.mem_map.mpr ⟨e, he, ?_⟩
    have hi : Value.isStrOf k e.2 = true := hi
    obtain ⟨hv, v⟩ := e
    cases v <;> simp [Value.isStrOf] at hi
    exact hi
  have len : (D.1.toList.map fun e => strOf e.2).length = l.length := by
    rw [List.length_map, Array.length_toList]
    exact F.ok.sz
  exact perm_same _ _ F.nd sub (Nat.le_of_eq len)
theorem sorted_set_text {a : Addr} {D : SD} {l : List Str} {Q : Value → Shared → Prop} (ho : s.heap.get? a = some (sObj "set" D)) (F : Tx P w D l) (hh : A.handled = none) (h64 : l.length < 64)
    (h : ∀ (s' : Shared) p (out : List Value) (c : Nat) (ys : List Str), (∀ b o, s.heap.get? b = some o → s'.heap.get? b = some o) → s'.gens = s.gens → s'.os = s.os → s.heap.objs.size ≤ p →
      s'.heap.get? p = some (seqObj "list" out.toArray c) → StrsAre out ys → ys.Perm l → sortedS ys = true → Q (.ref p) s') :
    wpAny (model P w) A (call (.builtin "sorted") [.ref a]) Q E s := by
  obtain ⟨v1, v2⟩ := F.vals
  have hsz : D.1.size = l.length := F.ok.sz
  refine Calls.call_function_entry kind_sorted plain_sorted entry_sorted (args_sorted1 _) ?_
  unfold Builtin.«sorted»
  refine wpAny_bind (m := checkCount "sorted" 1 1 _) (wpAny_pure ?_)
  refine wpAny_bind (collect_set (A := A.in1) (es := D.1) (ep := D.2.1) (t := D.2.2) hh ⟨_, ho, rfl, rfl⟩ F.ok.fit (by rw [hsz]; exact Nat.lt_trans h64 (by decide)) F.ris F.led fun s1 vs k1 z1 g1 o1 pm => ?_)
  have len : vs.length = l.length := by rw [pm.length_eq, List.length_map, Array.length_toList, hsz]
  have hS : StrsAre vs (vs.map strOf) := strs_of vs fun v hv => by
    obtain ⟨e, he, rfl⟩ := List.mem_map.mp (pm.mem_iff.mp hv)
    obtain ⟨k, tk, q, _⟩ := v1 e he
    exact ⟨k, tk, q⟩
  have pl : (vs.map strOf).Perm l := (pm.map strOf).trans (by rw [List.map_map]; exact v2)
  refine wpAny_bind (wpAny_newList ?_ (by rw [len, sizeLine_eq]; omega))
  have hL : (s1.heap.push (seqObj "list" vs.toArray 0)).get? s1.heap.objs.size = some (seqObj "list" vs.toArray 0) := Heap.get?_push_size _ rfl
  refine wpAny_bind (wpAny_holding (wpAny_call_entry slot_list_sort ⟨_, hL, rfl⟩ entry_list_sort
    (list_sort_treeK strKind_oneLt hL hS.keysOf (fun v₁ v₂ rest e => keyKind_strs (by rw [← e]; exact hS)) (by rw [len]; exact h64) fun st' hp hs => ⟨_, rfl, ?_⟩) (args_list_sort _)))
  obtain ⟨ys, y1, y2, y3⟩ := sorted_out_str hS hp hs
  obtain ⟨c, hc⟩ := sortedHeap_at (vs := vs) (out := (arrOf st').map (·.2)) hL
  refine wpAny_pure ⟨_, rfl, h _ s1.heap.objs.size _ c ys (fun b u e => ?_) g1 o1 z1 (by rw [Array.toArray_toList]; exact hc) y1 (y2.trans pl) y3⟩
  have q := k1 b u e
  have hb := Heap.lt_size q
  show (sortedHeap (s1.heap.push (seqObj "list" vs.toArray 0)) s1.heap.objs.size vs _).get? b = some u
  rw [sortedHeap_old (Nat.ne_of_lt hb) (by rw [size_push']; exact Nat.lt_succ_of_lt hb)]
  exact Heap.get?_push_of_some _ q
end
/-! ### the rules -/
def SetTx (P : Program) (w : World) (h : Heap) (a : Addr) (l : List Str) : Prop := ∃ D, h.get? a = some (sObj "set" D) ∧ Tx P w D l
def SetTxO (P : Program) (w : World) (a : Addr) (l : List Str) : HO := .ext fun h => SetTx P w h a l
section
variable {X : Cx}
theorem setTxO_new {P : Program} {w : World} {H : Hp} {h : Heap} {a : Addr} {l : List Str} (R : SetTx P w h a l) : ObjOk P w H h a (SetTxO P w a l) := by
  have ⟨D, ho, F⟩ := R
  exact ⟨R, ⟨_, ho⟩, fun h1 h2 z p => let ⟨D, e, F⟩ := z; ⟨D, p _ e, F⟩⟩
/-- a call of a built-in that lays one new object and moves nothing else -/
theorem laid_new {pins : List (Addr × Obj)} {σ : L2.St} {H : Hp} {s s' : Shared} {p : Addr} {o : HO} {Q : VK} (I : Inv X pins σ H s) (k : ∀ b u, s.heap.get? b = some u → s'.heap.get? b = some u) (g : s'.gens = s.gens) (ho : s'.os = s.os)
    (hp : s.heap.objs.size ≤ p) (new : ObjOk X.prog X.w (upd H p o) s'.heap p o) (q : H p = none → Q (.ref p) (upd H p o)) : EP X pins σ Q (.ref p) s' := by
  have hn : H p = none := I.hok.fresh hp
  exact ⟨.ref p, _, I.call' ho (ch := []) (Un.laid k hp hn) (I.hok.laid k hp new) (by rw [g]; exact I.bare) (fun _ z => nomatch z), rfl, q hn⟩
/-- set(text) -/
theorem cr_setText (hc : X.calm = true) : CallR X (.type "set") (fun xs H Q => ∃ x, xs = [.str x] ∧ x.length < 4000 ∧ ∀ a l, H a = none → l.Nodup → (∀ k, k ∈ l ↔ k ∈ parts x) → Q (.ref a) (upd H a (SetTxO X.prog X.w a l))) := by
  intro pins s σ H vs us Q I r h
  obtain ⟨x, rfl, hx, q⟩ := h
  obtain ⟨u, rfl, rx⟩ := vals1 r
  obtain ⟨tk, rfl⟩ := rx
  have hx : x.cps.size < 4000 := hx
  refine call_set_text (I.ok.hd hc) (Nat.lt_trans (Nat.succ_lt_succ hx) (by decide)) fun s' D l k g o hS F hm => ?_
  exact laid_new I k g o (Nat.le_refl _) (setTxO_new ⟨D, hS, F⟩) fun hn => q _ l hn F.nd hm
/-- sorted(set of texts) -/
theorem cr_sortedText (hc : X.calm = true) : CallR X (.builtin "sorted") (fun xs H Q => ∃ a l, xs = [.ref a] ∧ H a = some (SetTxO X.prog X.w a l) ∧ l.length < 64 ∧ ∀ ys p, ys.Perm l → sortedS ys = true → H p = none → Q (.ref p) (upd H p (.lst (ys.map .str)))) := by
  intro pins s σ H vs us Q I r h
  obtain ⟨a, l, rfl, ha, h64, q⟩ := h
  rw [Vals.ref1 r]
  obtain ⟨D, hS, F⟩ : SetTx X.prog X.w s.heap a l := (I.hok a _ ha).1
  refine sorted_set_text hS F (I.ok.hd hc) h64 fun s' p out c ys k g o hp hg hv pm so => ?_
  have len : (ys.map V.str).length ≤ sizeLine := by rw [List.length_map, pm.length_eq, sizeLine_eq]; omega
  have new : ObjOk X.prog X.w (upd H p (.lst (ys.map V.str))) s'.heap p (.lst (ys.map .str)) := ⟨len, out, c, vals_of_strs hv, hg⟩
  exact laid_new I k g o hp new fun hn => q ys p pm so hn
/-- list(text) -/
theorem cr_listText (hc : X.calm = true) : CallR X (.type "list") (fun xs H Q => ∃ x, xs = [.str x] ∧ x.length ≤ sizeLine ∧ ∀ p, H p = none → Q (.ref p) (upd H p (.lst ((parts x).map .str)))) := by
  intro pins s σ H vs us Q I r h
  obtain ⟨x, rfl, hx, q⟩ := h
  obtain ⟨u, rfl, rx⟩ := vals1 r
  obtain ⟨tk, rfl⟩ := rx
  have hx : x.cps.size ≤ sizeLine := hx
  refine call_list_str (I.ok.hd hc) x tk (hn := hx) fun h' t' acc c k hS it => ?_
  have hv : StrsAre acc.toList (parts x) := by
    have st := strs_of acc.toList fun v hv => by
      obtain ⟨i, hi, e⟩ := List.getElem_of_mem hv
      obtain ⟨c, u, _, q⟩ := it.2 i v (by rw [← Array.getElem?_toList, List.getElem?_eq_getElem hi, e])
      exact ⟨_, u, q⟩
    have e : acc.toList.map strOf = parts x := by
      apply List.ext_getElem?
      intro i
      rw [List.getElem?_map, List.getElem?_map, Array.getElem?_toList, Array.getElem?_toList]
      cases ha : acc[i]? with
      | none =>
        have z : x.cps[i]? = none := by
          have z1 := Array.getElem?_eq_none_iff.mp ha
          rw [it.1] at z1
          exact Array.getElem?_eq_none_iff.mpr z1
        rw [z]; rfl
      | some v =>
        obtain ⟨c, u, h1, h2⟩ := it.2 i v ha
        rw [h1, h2]; rfl
    rw [e] at st
    exact st
  have len : ((parts x).map V.str).length ≤ sizeLine := by
    rw [List.length_map, List.length_map, Array.length_toList]
    exact hx
  have new : ObjOk X.prog X.w (upd H s.heap.objs.size (.lst ((parts x).map V.str))) h' s.heap.objs.size (.lst ((parts x).map .str)) := ⟨len, acc.toList, c, vals_of_strs hv, by rw [Array.toArray_toList]; exact hS⟩
  exact laid_new (s' := { s with heap := h', toks := t' }) I k rfl rfl (Nat.le_refl _) new (q _)
end
end Vs

set_option Elab.async false
set_option linter.all false
set_option maxRecDepth 100000
set_option maxHeartbeats 4000000
namespace L2
namespace Vx
open PySem PySem.Spec PyProof.Rows
/-! ### a def that is called where no repr is under way (so that repr may be called in it) -/
structure FnG (P : Program) (w : World) (K : PySem.W.Frag) (mg : Str → Option Value) (base : Heap) (k : Nat) (f : Addr) (fd : FuncData) (ps : List Str) (sp : Sp) : Prop where
  run : ∀ (A : Around) (outer : List Env) (s : Shared) (H : Hp) (args : Args) (us : List Value) (vs : List V) (Q : VK) (E : XK), Room k A → A.guards = some [] → Env0 P w K mg base A outer s H → BindsTo s fd args (ps.zip us) → Vals vs us → sp vs H Q E →
    codeAny (model P w) A (.call (.ref f) args) (CR CX0 outer P w H s Q E) s
section
variable {P : Program} {w : World} {K : PySem.W.Frag} {mg : Str → Option Value} {base : Heap}
theorem FunG {x qual : Str} {st : Stmt} {f : Addr} {fd : FuncData} {N ps : List Str} {k : Nat} {sp : Sp} (F : Fun K x qual st f fd) (S : FnScope N ps (defScope st)) (len : ∀ vs H Q E, sp vs H Q E → vs.length = ps.length)
    (hbody : ∀ (cdv : Value) (A : Around) (outer : List Env) (s : Shared) (H : Hp) (vs : List V) (Q : VK) (E : XK), Room k (A.deeper (envOfC qual (defScope st) s.heap.objs.size f cdv)) → A.guards = some [] → sp vs H Q E →
      ∃ t, PSs (cxOf CX0 P w K mg base N qual (defScope st) f cdv A outer s H E).nox (defBody st) t ∧ t { nx := fun _ H' => Q .non H', rt := Q } (start N vs) H) : FnG P w K mg base (k + 1) f fd ps sp := by
  obtain ⟨oc, od, kV, doc, pm, an, cdv, ct, osl, rfl, lk, hcd⟩ := F.ex
  refine ⟨fun A outer s H args us vs Q E hr hgd e0 hb r hsp => ?_⟩
  obtain ⟨t, ht0, hq⟩ := hbody cdv A outer s H vs Q E (hr.deeper _) hgd hsp
  have ht := ht0.nox
  have hl := len _ _ _ _ hsp
  have KX : K.In s.heap := e0.mod.kin.keeps fun b o e => (e0.bs b o e).1
  have lim : s.heap.NoLimit := e0.mod.nolimit.keeps fun b o e => (e0.bs b o e).1
  have hkind : ∀ y ∈ ps.zip us, (defScope st).names.lookup y.1 = some .local ∨ ((defScope st).names.lookup y.1 = some .cell ∧ ((cellsFrom (s.heap.objs.size + 1) (defScope st).names []).lookup y.1).isSome = true) := by
    rintro ⟨n, v⟩ hy
    rcases S.par n (List.of_mem_zip hy).1 with q | q
    · exact .inl q
    · exact .inr ⟨q, PySem.W.cellsFrom_some _ _ _ (.inl q)⟩
  refine codeAny_call_function hr.depth (KX _ _ lk) rfl S.co S.gen rfl (PySem.W.codeRec_of KX hcd) (hb _ _ _ _ ?_)
  refine wpAny_newFunctionEnv_cells S.kind hkind fun env he s1 x => ?_
  subst he
  refine ⟨lim.keeps x.toInCall.keep, codeAny_func ?_⟩
  have I := inv_start (CX := CX0) (E := E) S hr.hd e0 hl r x
  refine wpAny_mono (ht.run [] s1 (start N vs) H _ I hq) (fun fl s' hs => ?_) fun e s' hs => hs
  cases fl with
  | ret u =>
    obtain ⟨v, σ', H', J, rv, q⟩ := hs
    exact ⟨v, H', J.os, J.bare, J.base, J.hok, rv, q⟩
  | next =>
    obtain ⟨σ', H', J, q⟩ := hs
    exact ⟨V.non, H', J.os, J.bare, J.base, J.hok, rfl, q⟩
  | brk => obtain ⟨_, _, _, q⟩ := hs; exact q.elim
  | cont => obtain ⟨_, _, _, q⟩ := hs; exact q.elim
theorem law_callG {mb : Str → Option Value} {k : Nat} {fa a : Addr} {fd : FuncData} {x : Str} {sp : Sp} {s₁ : Shared} {vs : List Value} {ns : List Int}
    (KX : K.In s₁.heap) (hns : s₁.heap.Ns mainGlobals mg) (hb : s₁.heap.Ns builtinsNs mb) (hbb : ∀ x : Str, x ≠ "__name__" → mb x = bootBuiltins x) (hlim : s₁.heap.NoLimit) (hg : s₁.gens = #[])
    (ha : s₁.heap.get? a = some { cls := .type "list", data := .seq vs.toArray }) (hi : IntsAre vs ns) (hl : ns.length ≤ sizeLine) (hr : Room k callerA)
    (F : ∀ base : Heap, K.In base → base.Ns mainGlobals mg → FnG P w K mg base k fa fd [x] sp) (hbind : ∀ (s : Shared) (u : Value), BindsTo s fd ⟨[u], []⟩ [(x, u)])
    (hsp : ∀ H : Hp, Only H → SqL K H a (ns.map V.int) → sp [.ref a] H (fun v _ => v = .bl true) fun _ _ _ => False) :
    codeAny (model P w) callerA (.call (.ref fa) ⟨[.ref a], []⟩) (fun r s' => r = .ok (.ret (.bool true)) ∧ OldK s₁.heap s'.heap ∧ s'.os = s₁.os ∧ AllBare s'.gens) s₁ := by
  have rv := vals_ints hi
  have lenV := hi.length
  have core : ∀ H : Hp, Only H → SqL K H a (ns.map V.int) → HOk P w H s₁.heap → (∀ b, H b ≠ none → b = a) → (H a ≠ none → K.lookup a = none) →
      codeAny (model P w) callerA (.call (.ref fa) ⟨[.ref a], []⟩) (fun r s' => r = .ok (.ret (.bool true)) ∧ OldK s₁.heap s'.heap ∧ s'.os = s₁.os ∧ AllBare s'.gens) s₁ := by
    intro H hO hS hok hA hK
    have only : ∀ {b : Addr} {u : HO}, H b = some u → b = a := fun {b u} q => hA b (by rw [q]; exact fun z => nomatch z)
    have nsK : ∀ {b : Addr} {m : Str → Option Value}, s₁.heap.Ns b m → (hidT s₁.heap H).Ns b m := by
      rintro b m ⟨o, es, ep, e, d, r⟩
      refine ⟨o, es, ep, hidT_get e ?_, d, r⟩
      cases q : H b with
      | none => rfl
      | some u =>
        obtain rfl := only q
        rw [ha] at e
        cases e
        exact nomatch (show Data.seq vs.toArray _ = Data.dict es ep from d)
    have hKb : K.In (hidT s₁.heap H) := by
      intro b o e
      refine hidT_get (KX b o e) ?_
      cases q : H b with
      | none => rfl
      | some u =>
        obtain rfl := only q
        rw [hK (by rw [q]; exact fun z => nomatch z)] at e
        cases e
    have hM : Mod K mg (hidT s₁.heap H) := ⟨hKb, nsK hns, ⟨mb, nsK hb, hbb⟩, let ⟨mc, h1, h2⟩ := hlim; ⟨mc, nsK h1, h2⟩⟩
    have e0 : Env0 P w K mg (hidT s₁.heap H) callerA [] s₁ H :=
      ⟨rfl, hM, fun b o e => of_hidT e, Nat.le_of_eq (hidT_size _ _), trivial, fun b hb => absurd (show b ∈ ([] : List Addr) from hb) (by simp), hok, .of_eq hg⟩
    refine codeAny_mono ((F _ hKb (nsK hns)).run callerA [] s₁ H ⟨[.ref a], []⟩ [.ref a] [.ref a] _ _ hr rfl e0 (hbind s₁ (.ref a)) (.cons rfl .nil) (hsp H hO hS)) fun r s' h => ?_
    cases r with
    | error e => exact (show False from h).elim
    | ok fl =>
      cases fl with
      | next => exact False.elim h
      | brk => exact False.elim h
      | cont => exact False.elim h
      | ret u =>
        obtain ⟨v, H', os, bare, un, hok', r', q⟩ := h
        obtain rfl : v = .bl true := q
        obtain rfl : u = Value.bool true := r'
        refine ⟨rfl, OldK.of_keep fun b o e => ?_, os, bare⟩
        cases q : H b with
        | none => exact un.keep b o e q (fun z => absurd (show b ∈ ([] : List Addr) from z) (by simp)) (by simp)
        | some u =>
          rcases hO b with z | ⟨ob, xs, z⟩
          · rw [q] at z; cases z
          · obtain ⟨e1, _⟩ := hok b _ z
            obtain ⟨e2, _⟩ := hok' b _ (un.frzs b ob _ z)
            rw [e] at e1
            cases e1
            exact e2
  cases hk : K.lookup a with
  | some o =>
    have e := KX a o hk
    rw [ha] at e
    cases e
    exact core (fun _ => none) (fun _ => .inl rfl) (.inr ⟨_, vs.toArray, _, hk, rfl, rfl, rfl, by rw [List.size_toArray, lenV]; exact hl, by simpa using rv⟩) (fun b u z => nomatch (show (none : Option HO) = some u from z)) (fun b z => absurd rfl z) fun z => absurd rfl z
  | none =>
    have at_a : (fun b => if b = a then some (HO.frz { cls := .type "list", data := .seq vs.toArray } (.lst (ns.map V.int))) else none) a = some (.frz { cls := .type "list", data := .seq vs.toArray } (.lst (ns.map V.int))) := if_pos rfl
    refine core (fun b => if b = a then some (.frz { cls := .type "list", data := .seq vs.toArray } (.lst (ns.map V.int))) else none) (fun b => ?_) (.inl (.inr ⟨_, at_a⟩)) (fun b u z => ?_) (fun b z => ?_) fun _ => hk
    · by_cases hb : b = a
      · exact .inr ⟨_, _, if_pos hb⟩
      · exact .inl (if_neg hb)
    · by_cases hb : b = a
      · cases (if_pos hb).symm.trans z
        subst hb
        exact ⟨ha, by rw [List.length_map]; exact hl, vs, _, rv, ha⟩
      · cases (if_neg hb).symm.trans z
    · by_cases hb : b = a
      · exact hb
      · exact absurd (if_neg hb) z
end
theorem walk_ofG {l : PySem.W.OpenLaw} {n k : Nat} {q : Program} {loose : List Str} {XP : (Str → Option Value) → Heap → Prop} {YP : World → Heap → Prop} {d : DefRec} {K : Params → PySem.W.Frag} {sp : World → Sp} {x : Str}
    (hn : l.most = some n) (hn2 : n ≤ sizeLine) (hdf : d.params.defaults = []) (hr : Room k callerA) (hY : ∀ (w : World) (h : Heap), YP w h → (K w.params).In h)
    (F : ∀ (w : World) (mg : Str → Option Value) (fa : Addr) (h : Heap), (K w.params).In h → h.Ns mainGlobals mg → mg d.name = some (.ref fa) →
      ∃ fd : FuncData, (∀ (s : Shared) (u : Value), BindsTo s fd ⟨[u], []⟩ [(x, u)]) ∧ ∀ base : Heap, (K w.params).In base → base.Ns mainGlobals mg → FnG l.prog w (K w.params) mg base k fa fd [x] (sp w))
    (hsp : ∀ (w : World) (H : Hp) (a : Addr) (ns : List Int), ns.length ≤ n → Only H → SqL (K w.params) H a (ns.map V.int) → sp w [.ref a] H (fun v _ => v = .bl true) fun _ _ _ => False) :
    PySem.W.WalkO q loose XP YP l.row.toRowW d [] (fun f vs => PySem.call f vs) := by
  refine Att.attach_call hn hdf fun w s₀ s₁ mg mb fa o pm cd doc a vs ns G Y ho hd hcd hmg hobj hints hlen hg => ?_
  have KX := hY w _ Y
  obtain ⟨fd, hb, hF⟩ := F w mg fa _ KX G.T.g hmg
  exact law_callG KX G.T.g G.T.b G.T.builtins G.T.nolimit hg hobj hints (Nat.le_trans hlen hn2) hr hF hb (fun H hO hS => hsp w H a ns hlen hO hS)
end Vx
end L2

set_option Elab.async false
set_option linter.all false
set_option maxRecDepth 100000
set_option maxHeartbeats 4000000
/-! ### values that can be shown: repr of any of them, whatever stands in sys.modules' place -/
namespace PySem
namespace Vr
section
mutual
inductive RdX (h : Heap) : Value → PyData → Prop
  | leaf {v d} (r : Reads h v d []) : RdX h v d
  | list {a o vs n xs} : h.get? a = some o → o.cls = .type "list" → o.data = .seq vs n → RdXAll h vs.toList xs → RdX h (.ref a) (.list xs)
  | tuple {a o vs n xs} : h.get? a = some o → o.cls = .type "tuple" → o.data = .seq vs n → RdXAll h vs.toList xs → RdX h (.ref a) (.tuple xs)
  | dict {a o es n kvs} : h.get? a = some o → o.cls = .type "dict" → o.data = .dict es n → ReadsAll h (es.toList.map (·.key)) (kvs.map (·.1)) [] → ReadsAll h (es.toList.map (·.val)) (kvs.map (·.2)) [] → (a == sysModules) = false → RdX h (.ref a) (.dict kvs)
inductive RdXAll (h : Heap) : List Value → List PyData → Prop
  | nil : RdXAll h [] []
  | cons {v vs d ds} : RdX h v d → RdXAll h vs ds → RdXAll h (v :: vs) (d :: ds)
end
mutual
theorem RdX.reads {h : Heap} : ∀ {v : Value} {d : PyData}, RdX h v d → ∃ as, Reads h v d as
  | _, _, .leaf r => ⟨[], r⟩
  | _, _, .list h1 h2 h3 h4 => let ⟨as, r⟩ := RdXAll.reads h4; ⟨_, .list h1 h2 h3 r⟩
  | _, _, .tuple h1 h2 h3 h4 => let ⟨as, r⟩ := RdXAll.reads h4; ⟨_, .tuple h1 h2 h3 r⟩
  | _, _, .dict h1 h2 h3 h4 h5 _ => ⟨_, .dict h1 h2 h3 h4 h5⟩
theorem RdXAll.reads {h : Heap} : ∀ {vs : List Value} {ds : List PyData}, RdXAll h vs ds → ∃ as, ReadsAll h vs ds as
  | _, _, .nil => ⟨[], .nil⟩
  | _, _, .cons r rs => let ⟨as, q⟩ := RdX.reads r; let ⟨bs, qs⟩ := RdXAll.reads rs; ⟨_, .cons q qs⟩
end
variable {prog : Program} {w : World} {h₀ : Heap}
theorem dict_parts {a : Addr} {o : Obj} {es : Array DictEntry} {n : Nat} {kvs : List (PyData × PyData)} (h1 : h₀.get? a = some o) (h2 : o.cls = .type "dict") (h3 : o.data = .dict es n) (h4 : ReadsAll h₀ (es.toList.map (·.key)) (kvs.map (·.1)) [])
    (h5 : ReadsAll h₀ (es.toList.map (·.val)) (kvs.map (·.2)) []) (hs : PyData.showableKv kvs = true) (hz : (dictText (PyData.shownKv kvs)).length ≤ sizeLine) :
    ∃ bs, a ∉ bs ∧ ReadAtMost h₀ (PyData.depthKv kvs) bs ∧ ReprEntriesK prog w bs h₀ (PyData.depthKv kvs) es.toList (PyData.shownKv kvs) := by
  obtain ⟨s1, s2⟩ := PyData.showableKv_split kvs hs
  have no : sysModules ∉ ([] : List Addr) := fun z => nomatch z
  obtain ⟨b1, g1, k1⟩ := ReprAllK.of_readsAll (prog := prog) (w := w) h4 s1 (fun _ => no) fun t ht => by
    obtain ⟨p, hp, hl⟩ := PyData.shownKv_key_le kvs t ht
    exact Nat.le_trans hl (Nat.le_trans (dictText_mem_le hp) hz)
  obtain ⟨b2, g2, k2⟩ := ReprAllK.of_readsAll (prog := prog) (w := w) h5 s2 (fun _ => no) fun t ht => by
    obtain ⟨p, hp, hl⟩ := PyData.shownKv_val_le kvs t ht
    exact Nat.le_trans hl (Nat.le_trans (dictText_mem_le hp) hz)
  have g : ReadAtMost h₀ (PyData.depthKv kvs) (b1 ++ b2) := (g1.mono (PyData.depthAll_keys_le kvs)).append (g2.mono (PyData.depthAll_vals_le kvs))
  refine ⟨b1 ++ b2, not_mem_of_deeper (.dict h1 h2 h3 h4 h5) (by simp only [PyData.depth]; omega) g, g, ?_⟩
  rw [PyData.shownKv_eq]
  exact ReprEntriesK.of_two es.toList _ _ (k1.more_le (fun b hb => List.mem_append_left _ hb) (PyData.depthAll_keys_le kvs)) (k2.more_le (fun b hb => List.mem_append_right _ hb) (PyData.depthAll_vals_le kvs))
mutual
theorem reprK_of : ∀ {v : Value} {d : PyData}, RdX h₀ v d → d.showable = true → d.shown.length ≤ sizeLine → ∃ bs, ReadAtMost h₀ d.depth bs ∧ ReprK prog w bs h₀ d.depth v d.shown
  | _, _, .leaf r, hs, hz => ReprK.of_reads r hs (fun _ z => nomatch z) hz
  | _, _, .list (a := a) (vs := vs) (xs := xs) h1 h2 h3 h4, hs, hz => by
    simp only [PyData.shown] at hz
    obtain ⟨bs, g, k⟩ := reprAllK_of h4 (by simpa [PyData.showable] using hs) fun t ht => Nat.le_trans (listText_mem_le ht) hz
    obtain ⟨as, r⟩ := RdX.reads (.list h1 h2 h3 h4)
    refine ⟨a :: bs, ReadAtMost.cons r (by simp only [PyData.depth]; omega) g, ?_⟩
    have na : a ∉ bs := not_mem_of_deeper r (by simp only [PyData.depth]; omega) g
    simp only [PyData.depth, PyData.shown]
    obtain ⟨l⟩ := vs
    cases l with
    | nil =>
      cases (show RdXAll h₀ [] xs from h4)
      simp only [PyData.shownAll, listText_nil]
      exact ReprK.listEmpty h1 h2 h3
    | cons x l => exact ReprK.list h1 h2 h3 na (by simpa using k.length_eq) fun i y e => k.item i y (by simpa using e)
  | _, _, .tuple (a := a) (xs := xs) h1 h2 h3 h4, hs, hz => by
    simp only [PyData.shown] at hz
    obtain ⟨bs, g, k⟩ := reprAllK_of h4 (by simpa [PyData.showable] using hs) fun t ht => Nat.le_trans (tupleText_mem_le ht) hz
    obtain ⟨as, r⟩ := RdX.reads (.tuple h1 h2 h3 h4)
    refine ⟨a :: bs, ReadAtMost.cons r (by simp only [PyData.depth]; omega) g, ?_⟩
    simp only [PyData.depth, PyData.shown]
    exact ReprK.tuple h1 h2 h3 (not_mem_of_deeper r (by simp only [PyData.depth]; omega) g) k
  | _, _, .dict (a := a) (kvs := kvs) h1 h2 h3 h4 h5 h6, hs, hz => by
    simp only [PyData.shown] at hz
    obtain ⟨bs, na, g, k⟩ := dict_parts (prog := prog) (w := w) h1 h2 h3 h4 h5 (by simpa [PyData.showable] using hs) hz
    refine ⟨a :: bs, ReadAtMost.cons (.dict h1 h2 h3 h4 h5) (by simp only [PyData.depth]; omega) g, ?_⟩
    simp only [PyData.depth, PyData.shown]
    exact ReprK.dict h1 h2 h3 h6 na k
theorem reprAllK_of : ∀ {vs : List Value} {ds : List PyData}, RdXAll h₀ vs ds → PyData.showableAll ds = true → (∀ t ∈ PyData.shownAll ds, t.length ≤ sizeLine) →
    ∃ bs, ReadAtMost h₀ (PyData.depthAll ds) bs ∧ ReprAllK prog w bs h₀ (PyData.depthAll ds) vs (PyData.shownAll ds)
  | _, _, .nil, _, _ => ⟨[], (fun _ h => nomatch h), by simp only [PyData.shownAll]; exact .nil⟩
  | _, _, .cons (d := d) (ds := ds) r rs, hs, hz => by
    have hs' : d.showable = true ∧ PyData.showableAll ds = true := by simpa [PyData.showableAll] using hs
    obtain ⟨b1, g1, k1⟩ := reprK_of r hs'.1 (hz _ (by simp only [PyData.shownAll]; exact List.mem_cons_self ..))
    obtain ⟨b2, g2, k2⟩ := reprAllK_of rs hs'.2 (fun t ht => hz t (by simp only [PyData.shownAll]; exact List.mem_cons_of_mem _ ht))
    refine ⟨b1 ++ b2, fun b hm => ?_, ?_⟩
    · simp only [PyData.depthAll]
      rcases List.mem_append.mp hm with hm | hm
      · obtain ⟨d', as', r', hd'⟩ := g1 b hm
        exact ⟨d', as', r', Nat.le_trans hd' (Nat.le_max_left _ _)⟩
      · obtain ⟨d', as', r', hd'⟩ := g2 b hm
        exact ⟨d', as', r', Nat.le_trans hd' (Nat.le_max_right _ _)⟩
    · simp only [PyData.depthAll, PyData.shownAll]
      exact .cons ((k1.more fun b hb => List.mem_append_left _ hb).level_le (Nat.le_max_left _ _)) (k2.more_le (fun b hb => List.mem_append_right _ hb) (Nat.le_max_right _ _))
end
/-- repr(v) -/
theorem repr_call {s : Shared} {A : Around} {E : Value → Shared → Prop} {Q : Value → Shared → Prop} {v : Value} {d : PyData} (r : RdX s.heap v d) (hs : d.showable = true) (hz : d.shown.length ≤ sizeLine) (hg : A.guards = some []) (hu : A.units + (d.depth + 1) < cLine)
    (hQ : ∀ h' u tk, (∀ b o, s.heap.get? b = some o → h'.get? b = some o) → Q (.str d.shown u) { s with heap := h', toks := tk }) : wpAny (model prog w) A (call (.builtin "repr") [v]) Q E s := by
  have hu' : A.in1.units + d.depth < cLine := by
    show A.units + 1 + d.depth < cLine
    omega
  have keep : ∀ b o, s.heap.get? b = some o → s.heap.get? b = some o := fun _ _ e => e
  cases r with
  | leaf r =>
    cases r with
    | none => simp only [PyData.shown] at hQ; exact P.repr_of_none (hQ s.heap _ _ keep)
    | bool b => simp only [PyData.shown] at hQ; exact P.repr_of_bool (hQ s.heap _ _ keep)
    | int i t => simp only [PyData.shown] at hQ; exact P.repr_of_int (by simpa [PyData.showable] using hs) (hQ s.heap _ _ keep)
    | str x t => simp only [PyData.shown] at hQ hz; exact P.repr_of_str (hQ s.heap _ _ keep) hz
    | tuple h1 h2 h3 h4 => exact repr_of_reads' (.tuple h1 h2 h3 h4) hs (fun _ z => nomatch z) hg hu keep (fun h' u tk k => hQ h' u tk k) hz
  | list h1 h2 h3 h4 =>
    rename_i a o vs n xs
    obtain ⟨as, r⟩ := RdX.reads (.list h1 h2 h3 h4)
    simp only [PyData.shown] at hQ hz
    obtain ⟨bs, g, k⟩ := reprAllK_of (prog := prog) (w := w) h4 (by simpa [PyData.showable] using hs) fun t ht => Nat.le_trans (listText_mem_le ht) hz
    have na : a ∉ bs := not_mem_of_deeper r (by simp only [PyData.depth]; omega) g
    simp only [PyData.depth] at hu'
    refine call_repr_slot (T := "list") (idr := "list.__repr__") (by omega) ⟨o, h1, h2⟩ F.slot_list_repr.toG ?_
    obtain ⟨l⟩ := vs
    cases l with
    | nil =>
      cases (show RdXAll s.heap [] xs from h4)
      simp only [PyData.shownAll, listText_nil] at hQ
      exact call_list_repr_empty ⟨o, h1, h2⟩ h1 h3 ⟨_, _, rfl, hQ s.heap _ _ keep⟩
    | cons x l => exact call_list_reprK h1 h2 h3 na (by simpa using k.length_eq) (fun i y e => k.item i y (by simpa using e)) hg (fun b _ => Clear.nil b) hu' keep (fun h' u tk kk => ⟨_, _, rfl, hQ h' u tk kk⟩) hz
  | tuple h1 h2 h3 h4 =>
    rename_i a o vs n xs
    obtain ⟨as, r⟩ := RdX.reads (.tuple h1 h2 h3 h4)
    simp only [PyData.shown] at hQ hz
    obtain ⟨bs, g, k⟩ := reprAllK_of (prog := prog) (w := w) h4 (by simpa [PyData.showable] using hs) fun t ht => Nat.le_trans (tupleText_mem_le ht) hz
    have na : a ∉ bs := not_mem_of_deeper r (by simp only [PyData.depth]; omega) g
    simp only [PyData.depth] at hu'
    exact call_repr_slot (T := "tuple") (idr := "tuple.__repr__") (by omega) ⟨o, h1, h2⟩ F.slot_tuple_repr
      (call_tuple_reprK h1 h2 h3 na k hg (fun b _ => Clear.nil b) hu' keep (fun h' u tk kk => ⟨_, _, rfl, hQ h' u tk kk⟩) hz)
  | dict h1 h2 h3 h4 h5 h6 =>
    simp only [PyData.shown] at hQ hz
    obtain ⟨bs, na, g, k⟩ := dict_parts (prog := prog) (w := w) h1 h2 h3 h4 h5 (by simpa [PyData.showable] using hs) hz
    simp only [PyData.depth] at hu'
    exact call_repr_slot (T := "dict") (idr := "dict.__repr__") (by omega) ⟨_, h1, h2⟩ F.slot_dict_repr
      (call_dict_reprK h1 h2 h3 h6 na k hg (fun b _ => Clear.nil b) hu' keep (fun h' u tk kk => ⟨_, _, rfl, hQ h' u tk kk⟩) hz)
end
end Vr
end PySem

set_option Elab.async false
set_option linter.all false
set_option maxRecDepth 100000
set_option maxHeartbeats 4000000
namespace L2
namespace Vx
open PySem PySem.Spec PyProof.Rows PySem.Vr
/-! ### values as data: trees of lists and tuples over flat things; a dict holds flat things alone; S: where they may stand -/
def FlatD : V → PyData → Prop
  | .non, d => d = .none
  | .bl b, d => d = .bool b
  | .int i, d => d = .int i
  | .str x, d => d = .str x
  | _, _ => False
def kD : Key → PyData
  | .inl i => .int i
  | .inr x => .str x
inductive FlatP : List (Key × V) → List (PyData × PyData) → Prop
  | nil : FlatP [] []
  | cons {k : Key} {v : V} {d : PyData} {r : List (Key × V)} {ds : List (PyData × PyData)} : FlatD v d → FlatP r ds → FlatP ((k, v) :: r) ((kD k, d) :: ds)
section
mutual
inductive Dt (H : Hp) (S : Addr → Prop) : V → PyData → Prop
  | flat {v d} : FlatD v d → Dt H S v d
  | lst {a xs ds} : H a = some (.lst xs) → S a → DtAll H S xs ds → Dt H S (.ref a) (.list ds)
  | tup {a xs ds} : H a = some (.tup xs) → S a → DtAll H S xs ds → Dt H S (.ref a) (.tuple ds)
  | dct {a kvs ds} : H a = some (.dK kvs) → S a → FlatP kvs ds → Dt H S (.ref a) (.dict ds)
inductive DtAll (H : Hp) (S : Addr → Prop) : List V → List PyData → Prop
  | nil : DtAll H S [] []
  | cons {v vs d ds} : Dt H S v d → DtAll H S vs ds → DtAll H S (v :: vs) (d :: ds)
end
mutual
theorem Dt.mono {H H' : Hp} {S S' : Addr → Prop} (k : ∀ a o, S a → H a = some o → H' a = some o) (ks : ∀ a o, S a → H a = some o → S' a) : ∀ {v : V} {d : PyData}, Dt H S v d → Dt H' S' v d
  | _, _, .flat h => .flat h
  | _, _, .lst h s r => .lst (k _ _ s h) (ks _ _ s h) (DtAll.mono k ks r)
  | _, _, .tup h s r => .tup (k _ _ s h) (ks _ _ s h) (DtAll.mono k ks r)
  | _, _, .dct h s r => .dct (k _ _ s h) (ks _ _ s h) r
theorem DtAll.mono {H H' : Hp} {S S' : Addr → Prop} (k : ∀ a o, S a → H a = some o → H' a = some o) (ks : ∀ a o, S a → H a = some o → S' a) : ∀ {vs : List V} {ds : List PyData}, DtAll H S vs ds → DtAll H' S' vs ds
  | _, _, .nil => .nil
  | _, _, .cons h r => .cons (Dt.mono k ks h) (DtAll.mono k ks r)
end
theorem DtAll.append {H : Hp} {S : Addr → Prop} : ∀ {vs ws : List V} {ds es : List PyData}, DtAll H S vs ds → DtAll H S ws es → DtAll H S (vs ++ ws) (ds ++ es)
  | _, _, _, _, .nil, r => r
  | _, _, _, _, .cons h t, r => .cons h (DtAll.append t r)
theorem FlatD.reads {h : Heap} {v : V} {u : Value} {d : PyData} (f : FlatD v d) (r : RelV v u) : Reads h u d [] := by
  cases v with
  | non => cases (show d = .none from f); cases (show u = Value.none from r); exact .none
  | bl b => cases (show d = .bool b from f); cases (show u = Value.bool b from r); exact .bool b
  | int i => cases (show d = .int i from f); obtain ⟨t, rfl⟩ := (show ∃ t, u = Value.int i t from r); exact .int i t
  | str x => cases (show d = .str x from f); obtain ⟨t, rfl⟩ := (show ∃ t, u = Value.str x t from r); exact .str x t
  | byt b => exact (show False from f).elim
  | flt b => exact (show False from f).elim
  | ref b => exact (show False from f).elim
  | ty b => exact (show False from f).elim
theorem readsAll_cons0 {h : Heap} {v : Value} {vs : List Value} {d : PyData} {ds : List PyData} (a : Reads h v d []) (b : ReadsAll h vs ds []) : ReadsAll h (v :: vs) (d :: ds) [] := .cons (as := []) (bs := []) a b
theorem flatP_reads {P : Program} {w : World} {h : Heap} : ∀ {kvs : List (Key × V)} {ds : List (PyData × PyData)} {vs : List (Key × Value)} {es : List DictEntry}, FlatP kvs ds → KV kvs vs → Pairs (mixKind P w) es vs →
    ReadsAll h (es.map (·.key)) (ds.map (·.1)) [] ∧ ReadsAll h (es.map (·.val)) (ds.map (·.2)) []
  | _, _, _, _, .nil, .nil, .nil => ⟨.nil, .nil⟩
  | _, _, _, _, .cons (k := k) f fr, .cons ⟨ek, rv⟩ rr, .cons (e := e0) hk hv hp => by
    obtain ⟨i1, i2⟩ := flatP_reads fr rr hp
    refine ⟨readsAll_cons0 ?_ i1, readsAll_cons0 ?_ i2⟩
    · have hk' : keyIs k e0.key = true := by rw [show k = _ from ek]; exact hk
      rcases keyIs_shape hk' with ⟨i, t, rfl, e⟩ | ⟨x, t, rfl, e⟩
      · show Reads h e0.key (.int i) []
        rw [e]
        exact .int i t
      · show Reads h e0.key (.str x) []
        rw [e]
        exact .str x t
    · exact f.reads (show RelV _ e0.val by rw [hv]; exact rv)
end
section
variable {X : Cx} {pins : List (Addr × Obj)} {σ : L2.St} {H : Hp} {s : Shared} {S : Addr → Prop}
mutual
theorem Dt.rd (I : Inv X pins σ H s) : ∀ {v : V} {d : PyData}, Dt H S v d → ∀ {u : Value}, RelV v u → RdX s.heap u d
  | _, _, .flat f, u, r => .leaf (f.reads r)
  | _, _, .lst (a := a) (xs := xs) h _ q, u, r => by
    cases (show u = Value.ref a from r)
    obtain ⟨_, its, n, rv, e⟩ := (show ObjOk X.prog X.w H s.heap a (.lst xs) from I.hok a _ h)
    exact .list e rfl rfl (DtAll.rd I q rv)
  | _, _, .tup (a := a) (xs := xs) h _ q, u, r => by
    cases (show u = Value.ref a from r)
    obtain ⟨_, its, rv, o, e, c, n, dt⟩ := (show ObjOk X.prog X.w H s.heap a (.tup xs) from I.hok a _ h)
    exact .tuple e c dt (DtAll.rd I q rv)
  | _, _, .dct (a := a) (kvs := kvs) h _ q, u, r => by
    cases (show u = Value.ref a from r)
    obtain ⟨_, hm, vs, rel, o, es, ep, e, hx, hd, _, hp, _⟩ := (show ObjOk X.prog X.w H s.heap a (.dK kvs) from I.hok a _ h)
    obtain ⟨i1, i2⟩ := flatP_reads (h := s.heap) q rel hp
    exact .dict e hx.1 hd i1 i2 hm
theorem DtAll.rd (I : Inv X pins σ H s) : ∀ {vs : List V} {ds : List PyData}, DtAll H S vs ds → ∀ {us : List Value}, Vals vs us → RdXAll s.heap us ds
  | _, _, .nil, _, .nil => .nil
  | _, _, .cons h q, _, .cons r rr => .cons (Dt.rd I h r) (DtAll.rd I q rr)
end
/-- a datum that repr can show -/
structure Shows (d : PyData) : Prop where
  sh : d.showable = true
  len : d.shown.length ≤ 1000000
  dep : d.depth ≤ 60
def rRep (S : Addr → Prop) : List V → Hp → VK → Prop := fun xs H Q => ∃ v d, xs = [v] ∧ Dt H S v d ∧ Shows d ∧ Q (.str d.shown) H
theorem call_rep (hg : X.A.guards = some []) (hu : X.A.units + 100 < cLine) (S : Addr → Prop) : CallR X (.builtin "repr") (rRep S) := by
  intro pins s σ H xs us Q I r h
  obtain ⟨v, d, rfl, hd, z, q⟩ := h
  cases r with
  | cons rv rn =>
    cases rn
    have hl : d.shown.length ≤ sizeLine := Nat.le_trans z.len (by rw [sizeLine_eq]; decide)
    have hdp := z.dep
    exact repr_call (hd.rd I rv) z.sh hl hg (by omega) fun h' u tk k => ⟨.str d.shown, H, I.kept (t' := tk) k, ⟨_, rfl⟩, q⟩
end
end Vx
end L2

set_option Elab.async false
set_option linter.all false
set_option maxRecDepth 100000
set_option maxHeartbeats 4000000
namespace Vf
open PySem PySem.Spec PyProof.Rows L2
/-! ### the text by places -/
def top (i : Nat) : Stmt := PySem.Challenge.pw_piecesseen_k09_makers.main.body.getD i (.Pass ⟨0, 0, 0, 0⟩)
abbrev sDeck : Stmt := top 57
abbrev sDraw : Stmt := top 58
abbrev sPick : Stmt := top 59
/-! ### the deck: what holds of it between draws -/
theorem same_new {H : Hp} {p : Addr} (h : H p = none) (o : HO) : Same H (upd H p o) := fun b u q => by rw [upd_ne (ne_of_none q h)]; exact q
/-- a deck at d, its digits at g -/
def DeckAt (H : Hp) (d g : Addr) : Prop := ∃ (ns : List Int) (m n : Int), H d = some (.lst [.ref g, .int m, .int n]) ∧ H g = some (.lst (ns.map V.int)) ∧ ns.length ≤ 63 ∧ d ≠ g
/-- all that was tracked stands, but for d and g -/
def Keeps (d g : Addr) (H H' : Hp) : Prop := ∀ b o, b ≠ d → b ≠ g → H b = some o → H' b = some o
theorem Keeps.refl (d g : Addr) (H : Hp) : Keeps d g H H := fun _ _ _ _ h => h
theorem Keeps.trans {d g : Addr} {H H1 H2 : Hp} (a : Keeps d g H H1) (b : Keeps d g H1 H2) : Keeps d g H H2 := fun c o n1 n2 h => b c o n1 n2 (a c o n1 n2 h)
theorem Keeps.of {d g : Addr} {H H' : Hp} (s : Same H H') : Keeps d g H H' := fun b o _ _ h => s b o h
theorem Keeps.upd_d {d g : Addr} {H H' : Hp} (k : Keeps d g H H') (o : HO) : Keeps d g H (upd H' d o) := fun b u n1 n2 h => by rw [upd_ne n1]; exact k b u n1 n2 h
theorem Keeps.upd_g {d g : Addr} {H H' : Hp} (k : Keeps d g H H') (o : HO) : Keeps d g H (upd H' g o) := fun b u n1 n2 h => by rw [upd_ne n2]; exact k b u n1 n2 h
theorem DeckAt.same {H H' : Hp} {d g : Addr} (h : DeckAt H d g) (s : Same H H') : DeckAt H' d g := by
  obtain ⟨ns, m, n, h1, h2, h3, h4⟩ := h
  exact ⟨ns, m, n, s _ _ h1, s _ _ h2, h3, h4⟩
theorem DeckAt.dn {H : Hp} {d g p : Addr} (h : DeckAt H d g) (hp : H p = none) : p ≠ d ∧ p ≠ g := by
  obtain ⟨ns, m, n, h1, h2, _⟩ := h
  exact ⟨(ne_of_none h1 hp).symm, (ne_of_none h2 hp).symm⟩
/-! ### promises -/
def spDeck (K : PySem.W.Frag) : Sp := fun vs H Q _ => ∃ (a : Addr) (ns : List Int), vs = [.ref a] ∧ SqL K H a (ns.map V.int) ∧ ns.length ≤ 63 ∧
  ∀ (d g : Addr) (H' : Hp), Same H H' → H d = none → H g = none → DeckAt H' d g → Q (.ref d) H'
def spDraw : Sp := fun vs H Q _ => ∃ (d g : Addr) (b : Int), vs = [.ref d, .int b] ∧ 0 < b ∧ b < 1073741824 ∧ DeckAt H d g ∧
  ∀ (r : Int) (H' : Hp), 0 ≤ r → r < b → DeckAt H' d g → Keeps d g H H' → Q (.int r) H'
def spPick (K : PySem.W.Frag) : Sp := fun vs H Q _ => ∃ (d g p : Addr) (xs : List V), vs = [.ref d, .ref p] ∧ (SqL K H p xs) ∧ p ≠ d ∧ p ≠ g ∧ xs ≠ [] ∧ xs.length < 1000000 ∧ DeckAt H d g ∧
  ∀ (x : V) (H' : Hp), x ∈ xs → DeckAt H' d g → Keeps d g H H' → Q x H'
/-- what the top leaves of the names that these defs use -/
structure TxtD (mg : Str → Option Value) (fW : Addr) : Prop where
  list : mg "list" = none
  int : mg "int" = none
  len : mg "len" = none
  draw : mg "_law_draw" = some (.ref fW)
section
variable {P : Program} {w : World} {K : PySem.W.Frag} {mg : Str → Option Value} {base : Heap}
theorem scDeck : FnScope ["_law_script", "_law_digits", "_law_mixed", "_law_cell"] ["_law_script"] (defScope sDeck) := ⟨rfl, rfl, rfl, by decide +kernel, rfl, by decide +kernel, by decide +kernel⟩
theorem int_at {ns : List Int} {i : Nat} {y : V} (h : (ns.map V.int)[i]? = some y) : ∃ z : Int, ns[i]? = some z ∧ y = .int z := by
  rw [List.getElem?_map] at h
  cases e : ns[i]? with
  | none => rw [e] at h; cases h
  | some z => rw [e] at h; exact ⟨z, rfl, (Option.some.inj h).symm⟩
theorem cut63 {xs : List V} (h : xs.length ≤ 63) : cutV xs none (some 63) = xs := by
  unfold cutV
  have e1 : HT.sIx xs.length 0 none = 0 := rfl
  have e2 : HT.sIx xs.length xs.length (some 63) = min 63 xs.length := HT.sIx_nat _ _ 63
  rw [e1, e2, List.drop_zero]
  exact List.take_of_length_le (by omega)
theorem ok_deck {f : Addr} {fd : FuncData} {fW : Addr} (F : Fun K "_law_deck" "_law_deck" sDeck f fd) (T : TxtD mg fW) : FnOk P w K mg base CX0 1 f fd ["_law_script"] (spDeck K) := by
  refine F.ok scDeck (fun vs H Q E h => ?_) (fun cdv A outer s H vs Q E hr h => ?_)
  · obtain ⟨a, ns, rfl, _⟩ := h
    rfl
  obtain ⟨a, ns, rfl, hS, h63, k⟩ := h
  refine ⟨_, pss_cons (ps_par (i := 1) (j := 2) rfl scDeck.nd rfl rfl (by decide) rfl rfl (pa_cons (pe_callTy call_list_of (by rfl) T.list (by decide +kernel) (pa_cons (pe_slice sl_list (pv 0) po_none (po_some pe_int)) pa_nil)) (pa_cons pe_int pa_nil)) (by rfl))
    (pss_cons (ps_for PassesOwn.never rfl (pi_list (pv 1)) (pg_name (i := 3) scDeck.nd rfl (Or.inl rfl))
      (pss_one (ps_set (i := 2) scDeck.nd rfl (Or.inl rfl) (pe_op op_mod (pe_callTy call_int1 (by rfl) T.int (by decide +kernel) (pa_cons (pe_op op_add (pe_op op_add (pe_op op_mul (pv 2) pe_int) (pe_op op_mod (pe_callTy call_int1 (by rfl) T.int (by decide +kernel) (pa_cons (pv 3) pa_nil)) pe_int)) pe_int) pa_nil)) pe_int))))
    (pss_one (ps_ret (pe_lst (pa_cons (pe_revL (pv 1)) (pa_cons (pv 2) (pa_cons pe_int pa_nil))))))), ?_⟩
  have hlm : (ns.map V.int).length = ns.length := List.length_map _
  refine ⟨_, rfl, _, rfl, a, _, rfl, hS, fun p hp => ?_⟩
  rw [cut63 (by rw [hlm]; exact h63)]
  refine ⟨p, _, rfl, .inl (SqL.of upd_same), fun l hl => ?_⟩
  refine ⟨_, _, rfl, ?_⟩
  have s1 : Same H (upd (upd H p (.lst (ns.map V.int))) l (.lst (ns.map V.int))) := (same_new hp _).trans (same_new hl _)
  have hl0 : H l = none := (same_new hp _).free hl
  refine ⟨_, rfl, l, rfl, ⟨_, SqL.of upd_same⟩, for_list (K := K) (a := l) (xs := ns.map V.int) (fun i σ H' => ∃ (m : Int) (v : Option V), σ = [some (.ref a), some (.ref l), some (.int m), v] ∧ -4294967296 < m ∧ m < 4294967296 ∧ H' = upd (upd H p (.lst (ns.map V.int))) l (.lst (ns.map V.int)))
    ⟨_, none, rfl, by decide, by decide, rfl⟩ (fun i σ H' _ ⟨_, _, _, _, _, e⟩ => e ▸ SqL.of upd_same) ?_ ?_⟩
  · rintro i y σ H' hi ⟨m, v, rfl, hm0, hm1, rfl⟩
    obtain ⟨z, _, rfl⟩ := int_at hi
    refine ⟨_, rfl, _, _, rfl, rfl, .inr ⟨by decide, by decide⟩, _, rfl, .inl ⟨_, rfl, _, _, rfl, rfl, (by show (0 : Int) < _; decide), _, _, rfl, rfl, _, _, rfl, rfl, .inl ⟨_, rfl, _, _, rfl, rfl, (by show (0 : Int) < _; decide), ?_⟩⟩⟩
    refine ⟨_, some (.int z), rfl, ?_, ?_, rfl⟩
    · exact Int.lt_of_lt_of_le (by decide) (Int.emod_nonneg _ (by decide))
    · exact Int.lt_trans (Int.emod_lt_of_pos _ (by decide)) (by decide)
  · rintro σ H' ⟨m, v, rfl, hm0, hm1, rfl⟩
    refine ⟨_, rfl, l, _, rfl, SqL.of upd_same, fun g hg => ?_⟩
    refine ⟨_, rfl, (by show 3 ≤ sizeLine; decide), fun d hd => ?_⟩
    have s2 : Same H (upd (upd (upd H p (.lst (ns.map V.int))) l (.lst (ns.map V.int))) g (.lst (ns.map V.int).reverse)) := s1.trans (same_new hg _)
    refine k d g _ (s2.trans (same_new hd _)) (s2.free hd) (s1.free hg) ⟨ns.reverse, m, 0, upd_same, ?_, by rw [List.length_reverse]; exact h63, (ne_of_none upd_same hd).symm⟩
    rw [upd_ne (ne_of_none upd_same hd), upd_same, List.map_reverse]
/-! ### a draw -/
theorem scDraw : FnScope ["_law_deck_here", "_law_below", "_law_mixed", "_law_cell"] ["_law_deck_here", "_law_below"] (defScope sDraw) := ⟨rfl, rfl, rfl, by decide +kernel, rfl, by decide +kernel, by decide +kernel⟩
theorem canLay_ints : ∀ ns : List Int, PyData.canLayAll0 (ns.map .int) = true
  | [] => rfl
  | n :: r => by simp only [List.map, PyData.canLayAll0, PyData.canLay0, canLay_ints r, Bool.and_self]
theorem depth_ints : ∀ ns : List Int, PyData.depthAll (ns.map .int) = 0
  | [] => rfl
  | n :: r => by simp only [List.map, PyData.depthAll, PyData.depth, depth_ints r, Nat.max_self]
theorem shaped_ints (ns : List Int) : SeqAt.shaped (.list (ns.map .int)) = true := by
  simp [SeqAt.shaped, PyData.canLay0, canLay_ints, PyData.depth, depth_ints]
theorem eqv_nil (ns : List Int) : PyData.eqv (.list (ns.map .int)) (.list []) = ns.isEmpty := by
  cases ns <;> simp [PyData.eqv, PyData.eqvAll]
theorem dpAll_ints {H : Hp} : ∀ ns : List Int, DpAll K H (ns.map V.int) (ns.map .int)
  | [] => .nil
  | n :: r => .cons (.int n) (dpAll_ints r)
theorem dp_ints {H : Hp} {a : Addr} {ns : List Int} (h : SqL K H a (ns.map V.int)) : Dp K H (.ref a) (.list (ns.map .int)) := .lst h (dpAll_ints ns)
theorem lst_ne {a b : Addr} {H : Hp} {xs ys : List V} (h : H a = some (.lst xs)) (h' : H b = some (.lst ys)) (e : xs ≠ ys) : a ≠ b := ne_of h h' fun q => e (HO.lst.inj q)
theorem ok_draw {f : Addr} {fd : FuncData} {fW : Addr} (F : Fun K "_law_draw" "_law_draw" sDraw f fd) (T : TxtD mg fW) : FnOk P w K mg base CX0 1 f fd ["_law_deck_here", "_law_below"] spDraw := by
  refine F.ok scDraw (fun vs H Q E h => ?_) (fun cdv A outer s H vs Q E hr h => ?_)
  · obtain ⟨d, g, b, rfl, _⟩ := h
    rfl
  obtain ⟨d, g, b, rfl, hb0, hb1, ⟨ns, m, n, h1, h2, h63, hdg⟩, k⟩ := h
  refine ⟨_, pss_cons (ps_asg (pe_op op_add (pe_ix ix_list (pv 0) pe_int (fun _ _ => rfl)) pe_int) (pg_sub (pv 0) pe_int set_list))
    (pss_cons (ps_set (i := 2) scDraw.nd rfl (Or.inl rfl) (pe_op op_add (pe_ix ix_list (pv 0) pe_int (fun _ _ => rfl)) (pe_op op_mul pe_int (pe_ix ix_list (pv 0) pe_int (fun _ _ => rfl)))))
    (C8.pss_cut (ps_if (pt_cmpR (op_neD hr.units) (pe_ix ix_list (pv 0) pe_int (fun _ _ => rfl)) (pe_lst pa_nil) (nomark _))
        (pss_cons (ps_set (i := 3) scDraw.nd rfl (Or.inl rfl) (pe_bm0 PySem.F.plainAttrs_list PySem.F.slot_list_pop PySem.F.type_list_pop mt_pop (pe_ix ix_list (pv 0) pe_int (fun _ _ => rfl))))
        (pss_cons (ps_if (pt_cmpR op_ge (pv 3) (pe_op op_pow pe_int pe_int) (nomark _))
            (pss_cons (ps_expr (pe_bm PySem.F.plainAttrs_list PySem.F.slot_list_append PySem.F.type_list_append mt_append (pe_ix ix_list (pv 0) pe_int (fun _ _ => rfl)) (pa_cons (pe_op op_fdivN (pv 3) (pv 1)) pa_nil)))
            (pss_one (ps_ret (pe_callTy call_int1 (by rfl) T.int (by decide +kernel) (pa_cons (pe_op op_modN (pv 3) (pv 1)) pa_nil))))) pss_nil)
        (pss_one (ps_set (i := 2) scDraw.nd rfl (Or.inl rfl) (pe_op op_add (pv 2) (pe_op op_mod (pe_callTy call_int1 (by rfl) T.int (by decide +kernel) (pa_cons (pv 3) pa_nil)) pe_int)))))) pss_nil)
    (pss_cons (ps_set (i := 2) scDraw.nd rfl (Or.inl rfl) (pe_op op_mod (pe_callTy call_int1 (by rfl) T.int (by decide +kernel) (pa_cons (pe_op op_add (pe_op op_mul (pv 2) pe_int) pe_int) pa_nil)) pe_int))
    (pss_cons (ps_set (i := 2) scDraw.nd rfl (Or.inl rfl) (pe_op op_mod (pe_callTy call_int1 (by rfl) T.int (by decide +kernel) (pa_cons (pe_op op_add (pe_op op_add (pe_op op_mul (pv 2) (pv 2)) (pe_op op_mul pe_int (pe_ix ix_list (pv 0) pe_int (fun _ _ => rfl)))) pe_int) pa_nil)) pe_int))
    (pss_one (ps_ret (pe_op op_modN (pe_op op_fdiv (pe_op op_mod (pe_op op_mul (pv 2) pe_int) pe_int) pe_int) (pv 1)))))))), ?_⟩
  have t0 : (0 : Int) < 4294967296 := by decide
  -- the third item goes up
  refine ⟨_, rfl, d, _, 2, _, rfl, rfl, SqL.of h1, rfl, _, _, rfl, rfl, _, rfl, d, _, 2, 2, rfl, rfl, h1, rfl, ?_⟩
  have hgd : g ≠ d := hdg.symm
  have e1 : (upd H d (.lst ([V.ref g, V.int m, V.int n].set 2 (V.int (n + 1))))) d = some (.lst [.ref g, .int m, .int (n + 1)]) := upd_same
  have e2 : (upd H d (.lst ([V.ref g, V.int m, V.int n].set 2 (V.int (n + 1))))) g = some (.lst (ns.map V.int)) := by rw [upd_ne hgd]; exact h2
  have kp : Keeps d g H (upd H d (.lst ([V.ref g, V.int m, V.int n].set 2 (V.int (n + 1))))) := (Keeps.refl d g H).upd_d _
  generalize upd H d (.lst ([V.ref g, V.int m, V.int n].set 2 (V.int (n + 1)))) = H1 at e1 e2 kp
  refine ⟨_, rfl, d, _, 1, _, rfl, rfl, SqL.of e1, rfl, _, rfl, d, _, 2, _, rfl, rfl, SqL.of e1, rfl, _, _, rfl, rfl, .inl ⟨by decide, by decide⟩, _, _, rfl, rfl, ?_⟩
  -- what stands behind the if
  refine ⟨fun σ H' => ∃ (x : Int) (v : Option V), σ = [some (.ref d), some (.int b), some (.int x), v] ∧ DeckAt H' d g ∧ Keeps d g H H', ?_, ?_⟩
  · refine ⟨_, rfl, d, _, 0, _, rfl, rfl, SqL.of e1, rfl, Nat.zero_le _, fun p hp => ?_⟩
    have hpd : p ≠ d := (ne_of_none e1 hp).symm
    have hpg : p ≠ g := (ne_of_none e2 hp).symm
    have e3 : upd H1 p (.lst []) d = some (.lst [.ref g, .int m, .int (n + 1)]) := by rw [upd_ne hpd.symm]; exact e1
    have e4 : upd H1 p (.lst []) g = some (.lst (ns.map V.int)) := by rw [upd_ne hpg.symm]; exact e2
    have kp1 : Keeps d g H (upd H1 p (.lst [])) := kp.trans (.of (same_new hp _))
    refine ⟨_, _, dp_ints (SqL.of e4), .lst (SqL.of upd_same) .nil, shaped_ints ns, rfl, _, rfl, ?_⟩
    rw [eqv_nil]
    generalize upd H1 p (.lst []) = H2 at e3 e4 kp1
    rcases List.eq_nil_or_concat ns with rfl | ⟨ms, z, rfl⟩
    · rw [if_neg (by simp)]
      exact ⟨_, none, rfl, ⟨[], m, n + 1, e3, e4, Nat.zero_le _, hdg⟩, kp1⟩
    · rw [if_pos (by simp)]
      rw [List.concat_eq_append, List.map_append] at e4
      rw [List.concat_eq_append] at h63
      have e4' : H2 g = some (.lst (ms.map V.int ++ [V.int z])) := e4
      have hlast : (ms.map V.int ++ [V.int z])[(ms.map V.int ++ [V.int z]).length - 1]? = some (V.int z) := by simp
      have hms : ms.length + 1 ≤ 63 := by rw [List.length_append, List.length_singleton] at h63; exact h63
      refine ⟨_, rfl, d, _, 0, _, rfl, rfl, SqL.of e3, rfl, .inl ⟨rfl, _, SqL.of e4'⟩, g, _, _, rfl, rfl, e4', hlast, ?_⟩
      have e5 : upd H2 g (.lst (ms.map V.int ++ [V.int z]).dropLast) d = some (.lst [.ref g, .int m, .int (n + 1)]) := by rw [upd_ne hdg]; exact e3
      have e6 : upd H2 g (.lst (ms.map V.int ++ [V.int z]).dropLast) g = some (.lst (ms.map V.int)) := by rw [upd_same, List.dropLast_concat]
      have kp3 : Keeps d g H (upd H2 g (.lst (ms.map V.int ++ [V.int z]).dropLast)) := kp1.upd_g _
      generalize upd H2 g (.lst (ms.map V.int ++ [V.int z]).dropLast) = H3 at e5 e6 kp3
      refine ⟨_, rfl, _, _, rfl, rfl, ⟨by decide, by decide, by decide⟩, _, _, rfl, rfl, _, rfl, ?_⟩
      refine ite2 (fun _ => ?_) (fun _ => ?_)
      · refine ⟨_, rfl, d, _, 0, _, rfl, rfl, SqL.of e5, rfl, .inl ⟨rfl, _, SqL.of e6⟩, _, rfl, _, rfl, _, _, rfl, rfl, ⟨by omega, by omega⟩, g, _, _, rfl, rfl, e6, ?_, ?_⟩
        · rw [List.length_map]
          exact small1000 (by omega)
        · refine ⟨_, rfl, _, rfl, _, _, rfl, rfl, (by show b ≠ 0; omega), .inl ⟨_, rfl, ?_⟩⟩
          refine k _ _ (Int.fmod_nonneg_of_pos _ hb0) (Int.fmod_lt_of_pos _ hb0) ⟨ms ++ [z.fdiv b], m, n + 1, ?_, ?_, ?_, hdg⟩ (kp3.upd_g _)
          · rw [upd_ne hdg]; exact e5
          · rw [upd_same, List.map_append]; rfl
          · rw [List.length_append, List.length_singleton]; exact hms
      · refine ⟨_, rfl, _, rfl, .inl ⟨_, rfl, _, _, rfl, rfl, (by show (0 : Int) < _; decide), _, _, rfl, rfl, ?_⟩⟩
        exact ⟨_, _, rfl, ⟨ms, m, n + 1, e5, e6, by omega, hdg⟩, kp3⟩
  · rintro σ H2 ⟨x, v, rfl, ⟨ns', m', n', g1, g2, g63, _⟩, kp2⟩
    have hc : (0 : Int) < 2147483647 := by decide
    refine ⟨_, rfl, _, _, rfl, rfl, .inr ⟨by decide, by decide⟩, _, _, rfl, rfl, .inl ⟨_, rfl, _, _, rfl, rfl, (by show (0 : Int) < _; decide), ?_⟩⟩
    refine ⟨_, rfl, _, rfl, _, _, rfl, rfl, .inl ⟨?b1, ?b2⟩, ?_⟩
    case b1 => exact Int.lt_of_lt_of_le (by decide) (Int.emod_nonneg _ (by decide))
    case b2 => exact Int.lt_trans (Int.emod_lt_of_pos _ (by decide)) (by decide)
    refine ⟨_, rfl, d, _, 2, _, rfl, rfl, SqL.of g1, rfl, _, _, rfl, rfl, .inl ⟨by decide, by decide⟩, _, _, rfl, rfl, _, _, rfl, rfl, .inl ⟨_, rfl, _, _, rfl, rfl, (by show (0 : Int) < _; decide), ?_⟩⟩
    refine ⟨_, rfl, _, _, rfl, rfl, .inr ⟨by decide, by decide⟩, _, _, rfl, rfl, (by show (0 : Int) < _; decide), _, _, rfl, rfl, ⟨by decide, by decide⟩, _, rfl, _, _, rfl, rfl, (by show b ≠ 0; omega), ?_⟩
    have hbb : 0 ≤ b := by omega
    exact k _ H2 (Int.fmod_nonneg_of_pos _ hb0) (Int.fmod_lt_of_pos _ hb0) ⟨ns', m', n', g1, g2, g63, hdg⟩ kp2
/-! ### a pick -/
theorem scPick : FnScope ["_law_deck_here", "_law_some"] ["_law_deck_here", "_law_some"] (defScope sPick) := ⟨rfl, rfl, rfl, by decide +kernel, rfl, by decide +kernel, by decide +kernel⟩
theorem Keeps.seq {d g a : Addr} {H H' : Hp} {xs : List V} (k : Keeps d g H H') (n1 : a ≠ d) (n2 : a ≠ g) (h : SqL K H a xs) : SqL K H' a xs := by
  rcases h with (h | ⟨o, h⟩) | h
  · exact .inl (.inl (k _ _ n1 n2 h))
  · exact .inl (.inr ⟨o, k _ _ n1 n2 h⟩)
  · exact .inr h
theorem ok_pick {f : Addr} {fd : FuncData} {fW : Addr} {fdW : FuncData} (F : Fun K "_law_pick" "_law_pick" sPick f fd) (FW : Fun K "_law_draw" "_law_draw" sDraw fW fdW) (bW : Binds K fdW ["_law_deck_here", "_law_below"] []) (T : TxtD mg fW) : FnOk P w K mg base CX0 2 f fd ["_law_deck_here", "_law_some"] (spPick K) := by
  have GW : FnOk P w K mg base CX0 1 fW fdW ["_law_deck_here", "_law_below"] spDraw := ok_draw FW T
  refine F.ok scPick (fun vs H Q E h => ?_) (fun cdv A outer s H vs Q E hr h => ?_)
  · obtain ⟨d, g, p, xs, rfl, _⟩ := h
    rfl
  obtain ⟨d, g, p, xs, rfl, hS, n1, n2, hne, hlen, hD, k⟩ := h
  refine ⟨_, pss_one (ps_ret (pe_ix ix_list (pv 1) (pe_call GW hr rfl T.draw FW.kp bW .nil pass0 (pa_cons (pv 0) (pa_cons (pe_callB call_len_seq (by rfl) T.len PySem.boot_len (pa_cons (pv 1) pa_nil)) pa_nil))) (fun _ _ => rfl))), ?_⟩
  have hpos : 0 < xs.length := List.length_pos_iff.mpr hne
  refine ⟨_, rfl, _, rfl, _, rfl, p, _, rfl, .inl hS, d, g, _, rfl, by omega, by omega, hD, fun r H' h0 h1 hD' kp => ?_⟩
  have hr : r.toNat < xs.length := by omega
  have er : r = ((r.toNat : Nat) : Int) := by omega
  have hx : atI xs r = some xs[r.toNat] := at_of er (List.getElem?_eq_getElem hr)
  exact ⟨p, _, r, _, rfl, rfl, kp.seq n1 n2 hS, hx, k _ H' (List.getElem_mem hr) hD' kp⟩
end
end Vf

set_option Elab.async false
set_option linter.all false
set_option maxRecDepth 100000
set_option maxHeartbeats 4000000
namespace Vf
open PySem PySem.Spec PyProof.Rows L2 L2.Vx
/-! ### machines as they stand in the heap -/
abbrev nI (n : Nat) : V := .int (n : Int)
/-- a tuple of states -/
def TupN (K : PySem.W.Frag) (H : Hp) (v : V) (ns : List Nat) : Prop := ∃ a, v = .ref a ∧ SqT K H a (ns.map nI)
def LstN (H : Hp) (a : Addr) (ns : List Nat) : Prop := H a = some (.lst (ns.map nI))
theorem same_T {K : PySem.W.Frag} {H H' : Hp} {a : Addr} {xs : List V} (s : Same H H') (h : SqT K H a xs) : SqT K H' a xs := by
  rcases h with (h | h) | h
  · exact .inl (.inl (s _ _ h))
  · exact .inl (.inr (h.imp fun o z => s _ _ z))
  · exact .inr h
theorem TupN.same {K : PySem.W.Frag} {H H' : Hp} {v : V} {ns : List Nat} (h : TupN K H v ns) (s : Same H H') : TupN K H' v ns := h.imp fun a z => ⟨z.1, same_T s z.2⟩
/-- the rows of a machine -/
def RowsAt (K : PySem.W.Frag) (H : Hp) (v : V) (rows : List (List Nat)) : Prop :=
  ∃ (a : Addr) (bs : List V), v = .ref a ∧ SqT K H a bs ∧ bs.length = rows.length ∧ ∀ (i : Nat) (b : V) (r : List Nat), bs[i]? = some b → rows[i]? = some r → TupN K H b r
theorem RowsAt.same {K : PySem.W.Frag} {H H' : Hp} {v : V} {rows : List (List Nat)} (h : RowsAt K H v rows) (s : Same H H') : RowsAt K H' v rows := by
  obtain ⟨a, bs, h1, h2, h3, h4⟩ := h
  exact ⟨a, bs, h1, same_T s h2, h3, fun i b r e1 e2 => (h4 i b r e1 e2).same s⟩
theorem ixN_nat {n j : Nat} (h : j < n) : ixN n (j : Int) = some j := by
  unfold ixN
  rw [if_pos (by omega), if_pos (by omega)]
  rfl
/-! ### end_flags -/
abbrev sFlags : Stmt := top 15
def flagsOf (m : Nat) (ends : List Nat) : List Bool := (List.range m).map fun i => decide (i ∈ ends)
def spFlags (K : PySem.W.Frag) : Sp := fun vs H Q _ => ∃ (m : Nat) (e : V) (ends : List Nat), vs = [nI m, e] ∧ TupN K H e ends ∧ (∀ x ∈ ends, x < m) ∧ m ≤ 100000 ∧
  ∀ l H', Same H H' → H l = none → H' l = some (.lst ((flagsOf m ends).map V.bl)) → Q (.ref l) H'
theorem flags_set {m x : Nat} {es : List Nat} (h : x < m) : ((flagsOf m es).map V.bl).set x (.bl true) = (flagsOf m (es ++ [x])).map V.bl := by
  unfold flagsOf
  apply List.ext_getElem?
  intro i
  by_cases e : x = i
  · subst e
    rw [List.getElem?_set_self (by simp; exact h)]
    simp [h]
  · rw [List.getElem?_set_ne e]
    simp only [List.getElem?_map, List.mem_append, List.mem_singleton]
    by_cases hi : i < m
    · rw [List.getElem?_range hi]
      simp [Ne.symm e]
    · rw [List.getElem?_eq_none (by simp; omega)]
      rfl
section
variable {P : Program} {w : World} {K : PySem.W.Frag} {mg : Str → Option Value} {base : Heap}
theorem scFlags : FnScope ["many", "ends", "flags", "end"] ["many", "ends"] (defScope sFlags) := ⟨rfl, rfl, rfl, by decide +kernel, rfl, by decide +kernel, by decide +kernel⟩
theorem ok_flags {f : Addr} {fd : FuncData} (F : Fun K "end_flags" "end_flags" sFlags f fd) : FnOk P w K mg base CX0 1 f fd ["many", "ends"] (spFlags K) := by
  refine F.ok scFlags (fun vs H Q E h => ?_) (fun cdv A outer s H vs Q E hr h => ?_)
  · obtain ⟨m, e, ends, rfl, _⟩ := h
    rfl
  obtain ⟨m, e, ends, rfl, he, hlt, hm, q⟩ := h
  refine ⟨_, pss_cons (ps_set (i := 2) scFlags.nd rfl (Or.inl rfl) (pe_op op_rep (pe_lst (pa_cons pe_bl pa_nil)) (pv 0)))
    (pss_cons (ps_for PassesOwn.never rfl (pi_tup (pv 1)) (pg_name (i := 3) scFlags.nd rfl (Or.inl rfl)) (pss_one (ps_asg pe_bl (pg_sub (pv 2) (pv 3) set_list))))
    (pss_one (ps_ret (pv 2)))), ?_⟩
  refine ⟨by show 1 ≤ sizeLine; decide, fun l hl => ?_⟩
  have s1 := same_new hl (.lst [V.bl false])
  refine ⟨_, rfl, l, (m : Int), _, rfl, rfl, upd_same, by omega, by omega, ?_, fun p hp => ?_⟩
  · show 1 * ((m : Int)).toNat ≤ sizeLine
    rw [sizeLine_eq]
    omega
  have s2 := s1.trans (same_new hp (.lst (List.replicate ((m : Int)).toNat [V.bl false]).flatten))
  have e2 : upd (upd H l (.lst [V.bl false])) p (.lst (List.replicate ((m : Int)).toNat [V.bl false]).flatten) p = some (.lst ((flagsOf m []).map V.bl)) := by
    rw [upd_same]
    congr 2
    unfold flagsOf
    rw [show ((m : Int)).toNat = m by omega]
    apply List.ext_getElem
    · simp
    · intro i h1 h2
      simp
  have hpH := s1.free hp
  generalize upd (upd H l (.lst [V.bl false])) p (.lst (List.replicate ((m : Int)).toNat [V.bl false]).flatten) = H2 at s2 e2 ⊢
  obtain ⟨a, rfl, ha⟩ := he
  refine ⟨_, rfl, a, rfl, ⟨_, same_T s2 ha⟩, for_tup (K := K) (a := a) (xs := ends.map nI) (fun i σ H' => ∃ v, σ = [some (nI m), some (.ref a), some (.ref p), v] ∧ H' p = some (.lst ((flagsOf m (ends.take i)).map V.bl)) ∧ Same H H')
    ⟨none, rfl, e2, s2⟩ (fun i σ H' _ ⟨v, _, _, s⟩ => same_T s ha) ?_ ?_⟩
  · rintro i x σ H' hi ⟨v, rfl, f1, f2⟩
    rw [List.getElem?_map] at hi
    obtain ⟨n, hn, rfl⟩ := Option.map_eq_some_iff.mp hi
    have hnm := hlt n (List.mem_of_getElem? hn)
    refine ⟨_, rfl, _, rfl, p, _, (n : Int), n, rfl, rfl, f1, ixN_nat (by simp [flagsOf]; exact hnm), _, rfl, ?_, fun b o e => ?_⟩
    · rw [upd_same, flags_set hnm, List.take_add_one, hn]
      rfl
    · rw [upd_ne (ne_of_none e hpH)]
      exact f2 b o e
  · rintro σ H' ⟨v, rfl, f1, f2⟩
    rw [List.length_map, List.take_length] at f1
    exact ⟨_, rfl, q p H' f2 hpH f1⟩
end
end Vf

set_option Elab.async false
set_option linter.all false
set_option maxRecDepth 100000
set_option maxHeartbeats 4000000
namespace Vf
open PySem PySem.Spec PyProof.Rows L2 L2.Vx
/-! ### states reached, as a function -/
def into (o : List Nat) (t : Nat) : List Nat := if t ∈ o then o else o ++ [t]
def rowOf (rows : List (List Nat)) (s : Nat) : List Nat := rows.getD s []
def bfs (rows : List (List Nat)) : Nat → Nat → List Nat → List Nat
  | 0, _, o => o
  | f + 1, i, o => if i < o.length then bfs rows f (i + 1) ((rowOf rows (o.getD i 0)).foldl into o) else o
def reach (rows : List (List Nat)) (s : Nat) : List Nat := bfs rows (rows.length + 1) 0 [s]
/-- all targets are states -/
def RowsIn (rows : List (List Nat)) (m : Nat) : Prop := ∀ r ∈ rows, ∀ t ∈ r, t < m
theorem rowOf_mem {rows : List (List Nat)} {m s : Nat} (h : RowsIn rows m) : ∀ t ∈ rowOf rows s, t < m := fun t ht => by
  unfold rowOf at ht
  rw [List.getD_eq_getElem?_getD] at ht
  cases e : rows[s]? with
  | none => rw [e] at ht; simp at ht
  | some r => rw [e] at ht; exact h r (List.mem_of_getElem? e) t ht
theorem nodup_lt : ∀ (m : Nat) (l : List Nat), l.Nodup → (∀ x ∈ l, x < m) → l.length ≤ m := by
  intro m l d h
  have q : ∀ (l r : List Nat), l.Nodup → (∀ k ∈ l, k ∈ r) → l.length ≤ r.length := by
    intro l
    induction l with
    | nil => intro r _ _; exact Nat.zero_le _
    | cons x l ih =>
      intro r d s
      obtain ⟨d1, d2⟩ := List.nodup_cons.mp d
      have p := (List.perm_cons_erase (s x (List.mem_cons_self ..))).length_eq
      have q := ih (r.erase x) d2 fun k hk => (List.mem_erase_of_ne fun z : k = x => d1 (by rw [← z]; exact hk)).mpr (s k (List.mem_cons_of_mem _ hk))
      simp only [List.length_cons] at p ⊢
      omega
  have z := q l (List.range m) d fun k hk => List.mem_range.mpr (h k hk)
  rw [List.length_range] at z
  exact z
theorem into_nodup {o : List Nat} {t : Nat} (d : o.Nodup) : (into o t).Nodup := by
  unfold into
  split
  · exact d
  · rename_i h
    exact List.nodup_append.mpr ⟨d, by simp, fun a ha b hb e => h (by rw [List.mem_singleton.mp hb] at e; exact e ▸ ha)⟩
theorem into_lt {o : List Nat} {t m : Nat} (h : ∀ x ∈ o, x < m) (ht : t < m) : ∀ x ∈ into o t, x < m := fun x hx => by
  unfold into at hx
  split at hx
  · exact h x hx
  · rcases List.mem_append.mp hx with hx | hx
    · exact h x hx
    · rw [List.mem_singleton.mp hx]; exact ht
theorem fold_into {m : Nat} : ∀ (r : List Nat) (o : List Nat), o.Nodup → (∀ x ∈ o, x < m) → (∀ t ∈ r, t < m) → (r.foldl into o).Nodup ∧ (∀ x ∈ r.foldl into o, x < m)
  | [], o, d, h, _ => ⟨d, h⟩
  | t :: r, o, d, h, hr => fold_into r (into o t) (into_nodup d) (into_lt h (hr t (List.mem_cons_self ..))) fun x hx => hr x (List.mem_cons_of_mem _ hx)
theorem into_len (o : List Nat) (t : Nat) : o.length ≤ (into o t).length := by
  unfold into
  split
  · exact Nat.le_refl _
  · rw [List.length_append]; omega
theorem fold_len : ∀ (r o : List Nat), o.length ≤ (r.foldl into o).length
  | [], _ => Nat.le_refl _
  | t :: r, o => Nat.le_trans (into_len o t) (fold_len r (into o t))
/-! ### states_reached -/
abbrev sReach : Stmt := top 18
def spReach (K : PySem.W.Frag) : Sp := fun vs H Q _ => ∃ (v : V) (rows : List (List Nat)) (s : Nat), vs = [v, nI s] ∧ RowsAt K H v rows ∧ RowsIn rows rows.length ∧ s < rows.length ∧ rows.length ≤ 1000 ∧
  ∀ l H', Same H H' → H l = none → H' l = some (.lst ((reach rows s).map nI)) → Q (.ref l) H'
structure TxtM (mg : Str → Option Value) : Prop where
  len : mg "len" = none
  tuple : mg "tuple" = none
  enu : mg "enumerate" = none
  range : mg "range" = none
  int : mg "int" = none
  list : mg "list" = none
/-- the dict of what was seen: as the list -/
def seenK (o : List Nat) : List (Key × V) := o.map fun x : Nat => ((Sum.inl ((x : Nat) : Int) : Key), V.bl true)
theorem seen_val : ∀ (o : List Nat) (t : Nat), (valV (seenK o) (Sum.inl (t : Int))).isSome = decide (t ∈ o)
  | [], t => by simp [seenK, valV]
  | x :: r, t => by
    by_cases e : x = t
    · subst e
      rw [show seenK (x :: r) = (Sum.inl (x : Int), V.bl true) :: seenK r from rfl, valV_pos rfl]
      simp
    · have e' : ¬ (Sum.inl (x : Int) : Key) = Sum.inl (t : Int) := fun z => e (by have z2 := Sum.inl.inj z; omega)
      rw [show seenK (x :: r) = (Sum.inl (x : Int), V.bl true) :: seenK r from rfl, valV_neg e', seen_val r t]
      simp [Ne.symm e]
theorem RowsAt.row {K : PySem.W.Frag} {H : Hp} {v : V} {rows : List (List Nat)} (h : RowsAt K H v rows) {s : Nat} (hs : s < rows.length) : ∃ (a : Addr) (bs : List V) (b : Addr), v = .ref a ∧ SqT K H a bs ∧ bs[s]? = some (.ref b) ∧ SqT K H b ((rowOf rows s).map nI) := by
  obtain ⟨a, bs, h1, h2, h3, h4⟩ := h
  have hb : bs[s]? = some bs[s] := List.getElem?_eq_getElem (by omega)
  have hr : rows[s]? = some (rowOf rows s) := by
    unfold rowOf
    rw [List.getD_eq_getElem?_getD, List.getElem?_eq_getElem hs]
    rfl
  obtain ⟨b, e1, e2⟩ := h4 s _ _ hb hr
  exact ⟨a, bs, b, h1, h2, by rw [hb, e1], e2⟩
def ivAt (σ : L2.St) (k : Nat) : Nat := match σ[k]? with
  | some (some (V.int i)) => i.toNat
  | _ => 0
section
variable {P : Program} {w : World} {K : PySem.W.Frag} {mg : Str → Option Value} {base : Heap}
theorem scReach : FnScope ["rows", "start", "order", "seen", "at", "state", "target"] ["rows", "start"] (defScope sReach) := ⟨rfl, rfl, rfl, by decide +kernel, rfl, by decide +kernel, by decide +kernel⟩
theorem ok_reach {f : Addr} {fd : FuncData} (F : Fun K "states_reached" "states_reached" sReach f fd) (T : TxtM mg) : FnOk P w K mg base CX0 1 f fd ["rows", "start"] (spReach K) := by
  refine F.ok scReach (fun vs H Q E h => ?_) (fun cdv A outer s H vs Q E hr h => ?_)
  · obtain ⟨v, rows, s, rfl, _⟩ := h
    rfl
  obtain ⟨v, rows, st, rfl, hR, hin, hst, hm, q⟩ := h
  have hu := hu_of hr
  refine ⟨_, pss_cons (ps_set (i := 2) scReach.nd rfl (Or.inl rfl) (pe_lst (pa_cons (pv 1) pa_nil)))
    (pss_cons (ps_set (i := 3) scReach.nd rfl (Or.inl rfl) (pe_disp (pps_cons (pv 1) pe_bl pps_nil) (by rfl) (by rfl) (fun z => by cases z) (by decide)))
    (pss_cons (ps_set (i := 4) scReach.nd rfl (Or.inl rfl) pe_int)
    (pss_cons (ps_while PassesOwn.never (pt_cmpR op_lt (pv 4) (pe_callB call_len_seq (by rfl) T.len PySem.boot_len (pa_cons (pv 2) pa_nil)) (nomark _))
      (pss_cons (ps_set (i := 5) scReach.nd rfl (Or.inl rfl) (pe_ix ix_list (pv 2) (pv 4) (fun _ _ => rfl)))
      (pss_cons (ps_for PassesOwn.never rfl (pi_tup (pe_ix ix_tup (pv 0) (pv 5) (fun _ _ => rfl))) (pg_name (i := 6) scReach.nd rfl (Or.inl rfl))
        (pss_one (ps_if (pt_cmp (pc_dnotin hu (pv 6) (pv 3))) (pss_cons (ps_dput hu (pv 3) (pv 6) pe_bl rfl) (pss_one (ps_expr (pe_bm PySem.F.plainAttrs_list PySem.F.slot_list_append PySem.F.type_list_append mt_append (pv 2) (pa_cons (pv 6) pa_nil))))) pss_nil)))
      (pss_one (ps_aug (i := 4) scReach.nd rfl (Or.inl rfl) pe_int ip_add)))))
    (pss_one (ps_ret (pv 2)))))), ?_⟩
  refine ⟨_, rfl, by show 1 ≤ sizeLine; decide, fun l hl => ?_⟩
  intro d hd
  refine ⟨_, rfl, upd_same, [(Sum.inl (st : Int), .bl true)], rfl, (by show 1 ≤ 15; decide), ?_⟩
  rw [upd_upd]
  have s0 : Same H (upd (upd H l (.lst [nI st])) d (.dK (mergeK [] [(Sum.inl (st : Int), .bl true)]))) := (same_new hl _).trans (same_new hd _)
  have f1 : upd (upd H l (.lst [nI st])) d (.dK (mergeK [] [(Sum.inl (st : Int), .bl true)])) l = some (.lst (([st] : List Nat).map nI)) := by rw [upd_ne (ne_of_none upd_same hd), upd_same]; rfl
  have f2 : upd (upd H l (.lst [nI st])) d (.dK (mergeK [] [(Sum.inl (st : Int), .bl true)])) d = some (.dK (seenK [st])) := by rw [upd_same]; rfl
  have hdH : H d = none := (same_new hl (.lst [nI st])).free hd
  have hld : l ≠ d := ne_of_none upd_same hd
  generalize upd (upd H l (.lst [nI st])) d (.dK (mergeK [] [(Sum.inl (st : Int), .bl true)])) = H1 at s0 f1 f2 ⊢
  clear hd
  have bound : ∀ o : List Nat, o.Nodup → (∀ x ∈ o, x < rows.length) → o.length ≤ rows.length := fun o a b => nodup_lt _ o a b
  refine while_by (fun σ H' => ∃ (o : List Nat) (i : Nat) (v5 v6 : Option V), σ = [some v, some (nI st), some (.ref l), some (.ref d), some (nI i), v5, v6] ∧ H' l = some (.lst (o.map nI)) ∧ H' d = some (.dK (seenK o)) ∧
      o.Nodup ∧ (∀ x ∈ o, x < rows.length) ∧ i ≤ o.length ∧ bfs rows (rows.length + 1 - i) i o = reach rows st ∧ Same H H')
    (fun (σ : L2.St) _ => rows.length - ivAt σ 4) ?_ ?_ ?_
  · refine ⟨[st], 0, none, none, rfl, f1, f2, by simp, fun x hx => ?_, Nat.zero_le _, rfl, s0⟩
    rw [List.mem_singleton.mp hx]
    exact hst
  · rintro σ H' ⟨o, i, v5, v6, rfl, g1, g2, nd, lt, hi, hb, sm⟩
    refine ⟨_, rfl, _, rfl, l, _, rfl, .inl (SqL.of g1), _, _, rfl, rfl, _, rfl, ?_⟩
    rw [List.length_map]
    refine ite2 (fun hlt => ?_) (fun hge => ?_)
    · have hil : i < o.length := by have := of_decide_eq_true hlt; omega
      have him : i < rows.length := Nat.lt_of_lt_of_le hil (bound o nd lt)
      have hoi : o[i]? = some (o.getD i 0) := by rw [List.getD_eq_getElem?_getD, List.getElem?_eq_getElem hil]; rfl
      have hsm : o.getD i 0 < rows.length := lt _ (List.mem_of_getElem? hoi)
      obtain ⟨a, bs, b, rfl, ha, hbs, hrow⟩ := hR.row hsm
      have ha' := same_T sm ha
      refine ⟨_, rfl, _, rfl, l, _, _, nI (o.getD i 0), rfl, rfl, SqL.of g1, atI_nat (by rw [List.getElem?_map, hoi]; rfl), ?_⟩
      refine ⟨_, rfl, _, rfl, a, _, _, .ref b, rfl, rfl, ha', atI_nat hbs, b, rfl, ⟨_, same_T sm hrow⟩, ?_⟩
      refine for_tup (K := K) (a := b) (xs := (rowOf rows (o.getD i 0)).map nI) (fun j σ H'' => ∃ v6, σ = [some (.ref a), some (nI st), some (.ref l), some (.ref d), some (nI i), some (nI (o.getD i 0)), v6] ∧
        H'' l = some (.lst ((((rowOf rows (o.getD i 0)).take j).foldl into o).map nI)) ∧ H'' d = some (.dK (seenK (((rowOf rows (o.getD i 0)).take j).foldl into o))) ∧ Same H H'') ⟨v6, rfl, g1, g2, sm⟩ (fun j σ H'' _ ⟨_, _, _, _, s⟩ => same_T s hrow) ?_ ?_
      · rintro j x σ H2 hj ⟨u6, rfl, k1, k2, k3⟩
        rw [List.getElem?_map] at hj
        obtain ⟨t, ht, rfl⟩ := Option.map_eq_some_iff.mp hj
        have hfold := fold_into ((rowOf rows (o.getD i 0)).take j) o nd lt fun t ht => rowOf_mem hin t (List.mem_of_mem_take ht)
        have hnx : ((rowOf rows (o.getD i 0)).take (j + 1)).foldl into o = into (((rowOf rows (o.getD i 0)).take j).foldl into o) t := by
          rw [List.take_add_one, ht, List.foldl_append]
          rfl
        rw [hnx]
        have ln := bound _ hfold.1 hfold.2
        generalize ((rowOf rows (o.getD i 0)).take j).foldl into o = o2 at k1 k2 hfold ln ⊢
        refine ⟨_, rfl, _, rfl, d, _, rfl, DGet.k (k := Sum.inl (t : Int)) k2, _, rfl, ?_⟩
        rw [seen_val]
        unfold into
        by_cases c : t ∈ o2
        · rw [if_pos c, decide_eq_true c]
          exact ⟨_, rfl, k1, k2, k3⟩
        · rw [if_neg c, decide_eq_false c]
          have hv : valV (seenK o2) (Sum.inl (t : Int)) = none := by
            cases e : valV (seenK o2) (Sum.inl (t : Int)) with
            | none => rfl
            | some y =>
              have z := seen_val o2 t
              rw [e, decide_eq_false c] at z
              exact nomatch z
          have hs : (seenK o2).length = o2.length := List.length_map _
          refine ⟨_, rfl, _, rfl, d, _, rfl, DPut.k (k := Sum.inl (t : Int)) k2 (by rw [hs]; exact Nat.lt_of_le_of_lt ln (Nat.lt_of_le_of_lt hm (by decide))), ?_⟩
          rw [putK_new _ hv]
          have k1' : upd H2 d (.dK (seenK o2 ++ [(Sum.inl (t : Int), V.bl true)])) l = some (.lst (o2.map nI)) := by rw [upd_ne hld]; exact k1
          refine ⟨_, rfl, .inl ⟨rfl, _, SqL.of k1'⟩, _, rfl, l, _, _, rfl, rfl, k1', by rw [List.length_map]; exact Nat.lt_of_le_of_lt ln (Nat.lt_of_le_of_lt hm (by decide)), _, rfl, ?_, ?_, fun c u e => ?_⟩
          · rw [upd_same, List.map_append]; rfl
          · rw [upd_ne hld.symm, upd_same]
            unfold seenK
            rw [List.map_append]
            rfl
          · rw [upd_ne (ne_of_none e hl), upd_ne (ne_of_none e hdH)]
            exact k3 c u e
      · rintro σ H2 ⟨u6, rfl, k1, k2, k3⟩
        rw [List.length_map, List.take_length] at k1 k2
        have hfold := fold_into (rowOf rows (o.getD i 0)) o nd lt fun t ht => rowOf_mem hin t ht
        have hpre : o.length ≤ ((rowOf rows (o.getD i 0)).foldl into o).length := fold_len _ _
        refine ⟨_, rfl, _, _, rfl, rfl, ⟨_, i + 1, _, _, rfl, k1, k2, hfold.1, hfold.2, by omega, ?_, k3⟩, ?_⟩
        · rw [← hb, show rows.length + 1 - i = (rows.length + 1 - (i + 1)) + 1 by omega]
          conv => rhs; unfold bfs
          rw [if_pos hil]
        · show rows.length - ((i : Int) + 1).toNat < rows.length - ((i : Int)).toNat
          omega
    · have hie : ¬ i < o.length := fun z => hge (decide_eq_true (by omega))
      have e : reach rows st = o := by
        rw [← hb, show rows.length + 1 - i = (rows.length - i) + 1 by have := bound o nd lt; omega]
        unfold bfs
        rw [if_neg hie]
      exact ⟨_, rfl, q l H' sm hl (by rw [e]; exact g1)⟩
  · rintro σ H' Q1 Q2 w ⟨x, e1, y, e2, p, n, e3, hs, i, j, e4, e5, k, e6, z⟩
    exact ⟨x, e1, y, e2, p, n, e3, hs, i, j, e4, e5, k, e6, w _ _ z⟩
end
end Vf

set_option Elab.async false
set_option linter.all false
set_option maxRecDepth 100000
set_option maxHeartbeats 4000000
namespace Vf
open PySem PySem.Spec PyProof.Rows L2 L2.Vx
/-! ### a machine begun in a state -/
def renum (rows : List (List Nat)) (o : List Nat) : List (List Nat) := o.map fun s => (rowOf rows s).map fun t => o.idxOf t
def endsAt (o ends : List Nat) : List Nat := (List.range o.length).filter fun i => decide (o.getD i 0 ∈ ends)
def numK (o : List Nat) : List (Key × V) := (List.range o.length).map fun i => ((Sum.inl ((o.getD i 0 : Nat) : Int) : Key), nI i)
abbrev sStarted : Stmt := top 19
def spStarted (K : PySem.W.Frag) : Sp := fun vs H Q _ => ∃ (v e : V) (rows : List (List Nat)) (ends : List Nat) (s : Nat), vs = [v, e, nI s] ∧ RowsAt K H v rows ∧ TupN K H e ends ∧ RowsIn rows rows.length ∧ (∀ x ∈ ends, x < rows.length) ∧ s < rows.length ∧ rows.length ≤ 1000 ∧
  (∀ r ∈ rows, r.length ≤ 1000) ∧ ∀ t a b H', Same H H' → H t = none → H' t = some (.tup [a, b]) → RowsAt K H' a (renum rows (reach rows s)) → TupN K H' b (endsAt (reach rows s) ends) → Q (.ref t) H'
/-- a dict comprehension over any walk -/
theorem dc_it {J : It} {n : Nat} {G : Hp → Prop} {Y : Nat → Hp → V → Hp → Prop} (w : Walk J n G Y) {g : TG} {tt : TT} {tk tv : TE} {vs : List Nat} {σ : L2.St} {H1 : Hp} {D : Addr} {Qd : Hp → Prop} (Pv : Nat → Hp → Prop) (h0 : Pv 0 (upd H1 D (.dK []))) (hG : ∀ i H, i ≤ n → Pv i H → G H)
    (hs : ∀ i x H H', i < n → Pv i H → Y i H x H' → g x (wipe σ vs) H' fun σ2 H2 => wipe σ2 vs = wipe σ vs ∧ tt σ2 H2 fun b H3 =>
      if b = true then tk σ2 H3 fun y H4 => tv σ2 H4 fun z H5 => ∃ kvs k, y = kV k ∧ H5 D = some (.dK kvs) ∧ kvs.length < sizeLine ∧ Pv (i + 1) (upd H5 D (.dK (putK kvs k z))) else Pv (i + 1) H3) (hd : ∀ H, Pv n H → Qd H) :
    ∃ W : Nat → Nat → Hp → Prop, (∃ m, W 0 m (upd H1 D (.dK []))) ∧ ∀ i m H, W i m H →
      (J.stop i H ∧ Qd H) ∨ (J.go i H ∧ ∃ Nx : Hp → Prop, (∀ H', Nx H' → ∃ m', m' < m ∧ W (i + 1) m' H') ∧ ∀ x H', J.yld i H x H' → g x (wipe σ vs) H' fun σ2 H2 => wipe σ2 vs = wipe σ vs ∧ tt σ2 H2 fun b H3 =>
        if b = true then tk σ2 H3 fun y H4 => tv σ2 H4 fun z H5 => ∃ kvs k, y = kV k ∧ H5 D = some (.dK kvs) ∧ kvs.length < sizeLine ∧ Nx (upd H5 D (.dK (putK kvs k z))) else Nx H3) := by
  refine ⟨fun i m H => m = n - i ∧ i ≤ n ∧ Pv i H, ⟨n, by simp, Nat.zero_le _, h0⟩, ?_⟩
  rintro i m H ⟨rfl, hi, p⟩
  by_cases hlt : i < n
  · exact .inr ⟨w.goes i H hlt (hG i H hi p), Pv (i + 1), fun H' p' => ⟨n - (i + 1), by omega, rfl, hlt, p'⟩, fun x H' y => hs i x H H' hlt p (w.yields i H x H' hlt (hG i H hi p) y)⟩
  · obtain rfl : i = n := by omega
    exact .inl ⟨w.stops H (hG i H hi p), hd H p⟩
/-! facts of what is reached -/
theorem into_mem {o : List Nat} {t : Nat} : t ∈ into o t := by
  unfold into
  split
  · assumption
  · exact List.mem_append_right _ (List.mem_singleton.mpr rfl)
theorem into_pre {o : List Nat} {t : Nat} : o <+: into o t := by
  unfold into
  split
  · exact List.prefix_refl _
  · exact List.prefix_append _ _
theorem fold_pre : ∀ (r o : List Nat), o <+: r.foldl into o
  | [], o => List.prefix_refl _
  | t :: r, o => into_pre.trans (fold_pre r (into o t))
theorem fold_mem : ∀ (r o : List Nat) (t : Nat), t ∈ r → t ∈ r.foldl into o
  | [], _, _, h => nomatch h
  | x :: r, o, t, h => by
    rcases List.mem_cons.mp h with h | h
    · subst h
      exact (fold_pre r (into o t)).subset into_mem
    · exact fold_mem r (into o x) t h
theorem pre_getD {o r : List Nat} (h : o <+: r) {i : Nat} (hi : i < o.length) : r.getD i 0 = o.getD i 0 := by
  obtain ⟨z, rfl⟩ := h
  rw [List.getD_eq_getElem?_getD, List.getD_eq_getElem?_getD, List.getElem?_append_left hi]
theorem bfs_ok {rows : List (List Nat)} {m : Nat} (hin : RowsIn rows m) : ∀ (f i : Nat) (o : List Nat), o.Nodup → (∀ x ∈ o, x < m) → i ≤ o.length → m + 1 ≤ f + i → (∀ j, j < i → ∀ t ∈ rowOf rows (o.getD j 0), t ∈ o) →
    (bfs rows f i o).Nodup ∧ (∀ x ∈ bfs rows f i o, x < m) ∧ o <+: bfs rows f i o ∧ ∀ s ∈ bfs rows f i o, ∀ t ∈ rowOf rows s, t ∈ bfs rows f i o
  | 0, i, o, nd, lt, hi, hf, _ => by
    have := nodup_lt m o nd lt
    omega
  | f + 1, i, o, nd, lt, hi, hf, cl => by
    unfold bfs
    by_cases h : i < o.length
    · rw [if_pos h]
      have q := fold_into (rowOf rows (o.getD i 0)) o nd lt fun t ht => rowOf_mem hin t ht
      have pre := fold_pre (rowOf rows (o.getD i 0)) o
      have z := bfs_ok hin f (i + 1) _ q.1 q.2 (Nat.le_trans h (fold_len _ _)) (by omega) fun j hj t ht => by
        by_cases e : j = i
        · subst e
          rw [pre_getD pre h] at ht
          exact fold_mem _ _ _ ht
        · rw [pre_getD pre (by omega)] at ht
          exact pre.subset (cl j (by omega) t ht)
      exact ⟨z.1, z.2.1, pre.trans z.2.2.1, z.2.2.2⟩
    · rw [if_neg h]
      refine ⟨nd, lt, List.prefix_refl _, fun s hs t ht => ?_⟩
      obtain ⟨j, hj, e⟩ := List.getElem_of_mem hs
      refine cl j (by omega) t ?_
      rw [List.getD_eq_getElem?_getD, List.getElem?_eq_getElem hj]
      rw [e]
      exact ht
structure Reached (rows : List (List Nat)) (s : Nat) (o : List Nat) : Prop where
  nd : o.Nodup
  lt : ∀ x ∈ o, x < rows.length
  first : o[0]? = some s
  closed : ∀ x ∈ o, ∀ t ∈ rowOf rows x, t ∈ o
theorem reached {rows : List (List Nat)} {s : Nat} (hin : RowsIn rows rows.length) (hs : s < rows.length) : Reached rows s (reach rows s) := by
  have z := bfs_ok hin (rows.length + 1) 0 [s] (by simp) (fun x hx => by rw [List.mem_singleton.mp hx]; exact hs) (Nat.zero_le _) (Nat.le_refl _) (fun j hj => nomatch hj)
  refine ⟨z.1, z.2.1, ?_, z.2.2.2⟩
  obtain ⟨r, e⟩ := z.2.2.1
  show (bfs rows (rows.length + 1) 0 [s])[0]? = some s
  rw [← e]
  rfl
/-! dicts made of a list's places -/
theorem valV_none {α : Type} (key : α → Key) (val : α → V) (k : Key) : ∀ js : List α, (∀ j ∈ js, key j ≠ k) → valV (js.map fun j => (key j, val j)) k = none
  | [], _ => rfl
  | j :: js, h => by
    rw [List.map_cons, valV_neg (h j (List.mem_cons_self ..))]
    exact valV_none key val k js fun x hx => h x (List.mem_cons_of_mem _ hx)
theorem valV_some {α : Type} (key : α → Key) (val : α → V) (k : Key) (j : α) : ∀ js : List α, j ∈ js → key j = k → (∀ x ∈ js, key x = k → x = j) → valV (js.map fun j => (key j, val j)) k = some (val j)
  | [], h, _, _ => nomatch h
  | x :: js, h, e, u => by
    rw [List.map_cons]
    by_cases c : key x = k
    · rw [valV_pos c, u x (List.mem_cons_self ..) c]
    · rw [valV_neg c]
      refine valV_some key val k j js ?_ e fun y hy => u y (List.mem_cons_of_mem _ hy)
      rcases List.mem_cons.mp h with h | h
      · rw [h] at e
        exact absurd e c
      · exact h
abbrev keyAt (o : List Nat) (i : Nat) : Key := Sum.inl ((o.getD i 0 : Nat) : Int)
theorem getD_at {o : List Nat} {i : Nat} (h : i < o.length) : o[i]? = some (o.getD i 0) := by rw [List.getD_eq_getElem?_getD, List.getElem?_eq_getElem h]; rfl
theorem key_inj {o : List Nat} (nd : o.Nodup) {i j : Nat} (hi : i < o.length) (hj : j < o.length) (e : keyAt o i = keyAt o j) : i = j := by
  have e1 : o.getD i 0 = o.getD j 0 := by have z := Sum.inl.inj e; omega
  have e2 := getD_at hi
  rw [e1, ← getD_at hj] at e2
  rw [List.getElem?_eq_getElem hi, List.getElem?_eq_getElem hj] at e2
  have e3 := Option.some.inj e2
  rcases Nat.lt_trichotomy i j with c | c | c
  · exact absurd e3 (List.pairwise_iff_getElem.mp nd i j hi hj c)
  · exact c
  · exact absurd e3.symm (List.pairwise_iff_getElem.mp nd j i hj hi c)
theorem num_at {o : List Nat} (nd : o.Nodup) {t : Nat} (h : t ∈ o) : valV (numK o) (Sum.inl (t : Int)) = some (nI (o.idxOf t)) := by
  have hi : o.idxOf t < o.length := List.idxOf_lt_length_of_mem h
  have hk : keyAt o (o.idxOf t) = Sum.inl (t : Int) := by
    show (Sum.inl ((o.getD (o.idxOf t) 0 : Nat) : Int) : Key) = _
    rw [List.getD_eq_getElem?_getD, List.getElem?_eq_getElem hi, List.getElem_idxOf]
    rfl
  exact valV_some (keyAt o) (fun i => nI i) _ (o.idxOf t) (List.range o.length) (List.mem_range.mpr hi) hk fun x hx e => key_inj nd (List.mem_range.mp hx) hi (e.trans hk.symm)
section
variable {P : Program} {w : World} {K : PySem.W.Frag} {mg : Str → Option Value} {base : Heap}
/-! rules at a comprehension's own frame -/
theorem tupOf_at {X : Cx} (e : X.K = K) : CallR X (.type "tuple") (fun xs H Q => ∃ p ys, xs = [.ref p] ∧ ((SqL K H p ys ∧ ∀ l, H l = none → Q (.ref l) (upd H l (.tup ys))) ∨ (SqT K H p ys ∧ Q (.ref p) H))) := e ▸ call_tuple_of
theorem ixT_at {X : Cx} (e : X.K = K) : IxR X (rIxT K) := e ▸ ix_tup
theorem ixL_at {X : Cx} (e : X.K = K) : IxR X (rIxL K) := e ▸ ix_list
theorem piT_at {X : Cx} {tg x : Expr} {te : TE} (e : X.K = K) (he : PE X x te) : PI X tg x (iTup K te) := e ▸ pi_tup he
abbrev scIn : Scope := { kind := .function, names := [(".0", .local), ("state", .local), ("tuple", .globalImplicit), ("numbers", .cell), ("rows", .cell)], isGenerator := false, isCoroutine := false, more := [] }
abbrev nStarted : List Str := ["rows", "ends", "start", "order", "numbers", "flags", "new_rows", "number", "state", "target"]
theorem scStarted : FnScope nStarted ["rows", "ends", "start"] (defScope sStarted) := ⟨rfl, rfl, rfl, by decide +kernel, rfl, by decide +kernel, by decide +kernel⟩
theorem ok_started {f fR fF : Addr} {fd fdR fdF : FuncData} (F : Fun K "started_at" "started_at" sStarted f fd) (T : TxtM mg)
    (GR : FnOk P w K mg base CX0 1 fR fdR ["rows", "start"] (spReach K)) (bR : Binds K fdR ["rows", "start"] []) (kR : PySem.W.keepIn K (.ref fR) = true) (mR : mg "states_reached" = some (.ref fR))
    (GF : FnOk P w K mg base CX0 1 fF fdF ["many", "ends"] (spFlags K)) (bF : Binds K fdF ["many", "ends"] []) (kF : PySem.W.keepIn K (.ref fF) = true) (mF : mg "end_flags" = some (.ref fF)) :
    FnOk P w K mg base CX0 2 f fd ["rows", "ends", "start"] (spStarted K) := by
  refine F.ok scStarted (fun vs H Q E h => ?_) (fun cdv A outer s H vs Q E hr h => ?_)
  · obtain ⟨v, e, rows, ends, s, rfl, _⟩ := h
    rfl
  obtain ⟨v, e, rows, ends, st, rfl, hR, hE, hin, hel, hst, hm, hw, q⟩ := h
  have hu := hu_of hr
  refine ⟨_, pss_cons (ps_set (i := 3) scStarted.nd rfl (Or.inl rfl) (pe_call GR hr rfl mR kR bR .nil pass0 (pa_cons (pv 0) (pa_cons (pv 2) pa_nil))))
    (pss_cons (ps_set (i := 4) scStarted.nd rfl (Or.inr rfl) (pe_dc (own := [("number", 7), ("state", 8)]) (g := gTup K 2 (gCons (gName 7) (gCons (gName 8) gNil))) (tt := tYes) rfl scStarted.nd (pi_enum (by rfl) T.enu (pa_cons (pv 3) pa_nil))
        (blkOk_by (N := nStarted) (sc := defScope sStarted) (by decide +kernel)) (fun _ _ _ _ _ => by exact (pg_tup rfl (pgs_cons (pg_name (i := 7) scStarted.nd rfl (Or.inl rfl)) (pgs_cons (pg_name (i := 8) scStarted.nd rfl (Or.inl rfl)) pgs_nil)))) (fun _ _ _ _ _ => pts_nil)
        (fun _ _ _ _ _ => by exact pv 8) (fun _ _ _ _ _ => by exact pv 7)))
    (pss_cons (ps_set (i := 5) scStarted.nd rfl (Or.inr rfl) (pe_call GF hr rfl mF kF bF .nil pass0 (pa_cons (pe_callB call_len_seq (by rfl) T.len PySem.boot_len (pa_cons (pv 0) pa_nil)) (pa_cons (pv 1) pa_nil))))
    (pss_cons (ps_set (i := 6) scStarted.nd rfl (Or.inl rfl) (pe_callTy call_tuple_of (by rfl) T.tuple (by decide +kernel) (pa_cons (pe_lc (own := [("state", 8)]) (g := gName 8) (tt := tYes) rfl scStarted.nd (pi_list (pv 3))
        (blkOk_by (N := nStarted) (sc := defScope sStarted) (by decide +kernel)) (fun _ _ _ _ _ => pg_name (i := 8) scStarted.nd rfl (Or.inl rfl)) (fun _ _ _ _ _ => pts_nil)
        (fun _ _ _ _ _ => by exact pe_callTy (tupOf_at (K := K) rfl) (by rfl) T.tuple (by decide +kernel) (pa_cons (pe_lc (own := [("target", 9)]) (g := gName 9) (tt := tYes) rfl scStarted.nd (piT_at (K := K) rfl (pe_ix (ixT_at (K := K) rfl) (pv 0) (pv 8) (fun _ _ => rfl)))
          (blkOk_by (N := nStarted) (sc := scIn) (by decide +kernel)) (fun _ _ _ _ _ => pg_name (i := 9) scStarted.nd rfl (Or.inl rfl)) (fun _ _ _ _ _ => pts_nil)
          (fun _ _ _ _ _ => by exact pe_dget hu (pv 4) (pv 9) (fun _ _ => rfl))) pa_nil))) pa_nil)))
    (pss_one (ps_ret (pe_tup (pa_cons (pv 6) (pa_cons (pe_callTy call_tuple_of (by rfl) T.tuple (by decide +kernel) (pa_cons (pe_lc (own := [("number", 7), ("state", 8)]) (g := gTup K 2 (gCons (gName 7) (gCons (gName 8) gNil))) rfl scStarted.nd (pi_enum (by rfl) T.enu (pa_cons (pv 3) pa_nil))
        (blkOk_by (N := nStarted) (sc := defScope sStarted) (by decide +kernel)) (fun _ _ _ _ _ => by exact (pg_tup rfl (pgs_cons (pg_name (i := 7) scStarted.nd rfl (Or.inl rfl)) (pgs_cons (pg_name (i := 8) scStarted.nd rfl (Or.inl rfl)) pgs_nil))))
        (fun _ _ _ _ _ => by exact pts_one (pt_val (pe_ix (ixL_at (K := K) rfl) (pv 5) (pv 8) (fun _ _ => rfl)))) (fun _ _ _ _ _ => by exact pv 7)) pa_nil)) pa_nil)))))))), ?_⟩
  have R := reached hin hst
  refine ⟨_, rfl, _, rfl, v, rows, st, rfl, hR, hin, hst, hm, fun l H1 s1 hl g1 => ?_⟩
  generalize reach rows st = o at R g1 q ⊢
  have lo : o.length ≤ rows.length := nodup_lt _ o R.nd R.lt
  have lo2 : o.length < sizeLine := Nat.lt_of_le_of_lt lo (Nat.lt_of_le_of_lt hm (by decide))
  have item : ∀ {i : Nat} {y : V}, (o.map nI)[i]? = some y → ∃ h : i < o.length, y = nI (o.getD i 0) := fun {i y} e => by
    rw [List.getElem?_map] at e
    obtain ⟨t, ht, rfl⟩ := Option.map_eq_some_iff.mp e
    have hi := (List.getElem?_eq_some_iff.mp ht).1
    rw [getD_at hi] at ht
    exact ⟨hi, by rw [Option.some.inj ht]⟩
  refine ⟨_, rfl, l, _, rfl, SqL.of g1, fun D hD => ?_⟩
  refine dc_it walk_enum (fun i H' => H' D = some (.dK ((List.range i).map fun j => (keyAt o j, nI j))) ∧ Same H1 H') ⟨upd_same, same_new hD _⟩ (fun i H' _ ⟨_, s⟩ => s.seq (SqL.of g1)) ?_ ?_
  · rintro i x H2 H3 hi ⟨k1, k2⟩ ⟨T1, x1, y1, rfl, hT, rfl, e1, e2⟩
    obtain rfl : V.int (i : Nat) = x1 := Option.some.inj e1
    obtain ⟨hio, rfl⟩ := item e2
    have hv : valV ((List.range i).map fun j => (keyAt o j, nI j)) (keyAt o i) = none := valV_none _ _ _ _ fun j hj e => by
      have hj' := List.mem_range.mp hj
      have := key_inj R.nd (by omega) hio e
      omega
    refine ⟨T1, _, rfl, SqT.of upd_same, rfl, _, _, rfl, _, _, rfl, rfl, rfl, _, rfl, _, rfl, _, keyAt o i, rfl, (upd_ne (ne_of_none k1 hT)).trans k1, ?_, ?_, fun b u e => ?_⟩
    · rw [List.length_map, List.length_range]; omega
    · rw [upd_same, putK_new _ hv, List.range_succ, List.map_append]
      rfl
    · rw [upd_ne (ne_of_none e hD)]
      exact same_new hT _ b u (k2 b u e)
  · rintro H2 ⟨k1, k2⟩
    rw [List.length_map] at k1
    have s2 := s1.trans k2
    have g1' := k2 _ _ g1
    obtain ⟨va, bs, rfl, hva, hbl, hrows⟩ := id (hR.same s2)
    refine ⟨_, rfl, va, _, rfl, .inr hva, _, rfl, rows.length, e, ends, by rw [hbl]; rfl, hE.same s2, hel, by omega, fun lf H3 s3 hlf g3 => ?_⟩
    have hR3 := (hR.same s2).same s3
    have kD := s3 _ _ k1
    have gl := s3 _ _ g1'
    refine ⟨_, rfl, l, rfl, ⟨_, SqL.of gl⟩, fun D2 hD2 => ?_⟩
    have lr : (renum rows o).length = o.length := List.length_map _
    have getR : ∀ i, i < o.length → (renum rows o).getD i [] = (rowOf rows (o.getD i 0)).map fun t => o.idxOf t := fun i hi => by
      rw [List.getD_eq_getElem?_getD, show (renum rows o)[i]? = some ((rowOf rows (o.getD i 0)).map fun t => o.idxOf t) by unfold renum; rw [List.getElem?_map, getD_at hi]; rfl]
      rfl
    refine lc_it (walk_list (xs := o.map nI)) (fun i H' => ∃ ts : List Addr, H' D2 = some (.lst (ts.map V.ref)) ∧ ts.length = i ∧ (∀ (j : Nat) (t : Addr), ts[j]? = some t → H' t = some (.tup (((renum rows o).getD j []).map nI))) ∧ Same H3 H')
      ⟨[], upd_same, rfl, (fun j t z => nomatch z), same_new hD2 _⟩ (fun i H' _ ⟨_, _, _, _, s⟩ => s.seq (SqL.of gl)) ?_ ?_
    · rintro i x H4 H5 hi ⟨ts, m1, m2, m3, m4⟩ ⟨rfl, hx⟩
      obtain ⟨hio, rfl⟩ := item hx
      have hmem : o.getD i 0 ∈ o := List.mem_of_getElem? (getD_at hio)
      obtain ⟨a', bs', b, ea, ha', hbs', hrow⟩ := hR3.row (R.lt _ hmem)
      cases ea
      have hwid : (rowOf rows (o.getD i 0)).length ≤ 1000 := by
        unfold rowOf
        rw [List.getD_eq_getElem?_getD, List.getElem?_eq_getElem (R.lt _ hmem)]
        exact hw _ (List.getElem_mem _)
      refine ⟨rfl, _, rfl, _, rfl, va, bs', _, .ref b, rfl, rfl, same_T m4 ha', atI_nat hbs', b, rfl, ⟨_, same_T m4 hrow⟩, fun D3 hD3 => ?_⟩
      refine lc_it (walk_tup (xs := (rowOf rows (o.getD i 0)).map nI)) (fun j H' => H' D3 = some (.lst (((rowOf rows (o.getD i 0)).take j).map fun t => nI (o.idxOf t))) ∧ Same H5 H') ⟨upd_same, same_new hD3 _⟩ (fun j H' _ ⟨_, s⟩ => same_T s (same_T m4 hrow)) ?_ ?_
      · rintro j y H6 H7 hj ⟨n1, n2⟩ ⟨rfl, hy⟩
        rw [List.getElem?_map] at hy
        obtain ⟨t, ht, rfl⟩ := Option.map_eq_some_iff.mp hy
        have htm := R.closed _ hmem t (List.mem_of_getElem? ht)
        refine ⟨rfl, _, rfl, _, rfl, D, nI (o.idxOf t), rfl, ?_, _, n1, ?_, ?_, fun b' u e' => ?_⟩
        · rw [← num_at R.nd htm]
          exact DGet.k (k := Sum.inl (t : Int)) (n2 _ _ (m4 _ _ kD))
        · rw [List.length_map]
          exact Nat.lt_of_le_of_lt (List.length_take_le' _ _) (Nat.lt_of_le_of_lt hwid (by decide))
        · rw [upd_same, List.take_add_one, ht, List.map_append]
          rfl
        · rw [upd_ne (ne_of_none e' hD3)]
          exact n2 b' u e'
      · rintro H6 ⟨n1, n2⟩
        rw [List.length_map, List.take_length] at n1
        refine ⟨D3, _, rfl, .inl ⟨SqL.of n1, fun t ht => ?_⟩⟩
        have sT := same_new ht (.tup ((rowOf rows (o.getD i 0)).map fun t => nI (o.idxOf t)))
        have hD26 : H6 D2 = some (.lst (ts.map V.ref)) := n2 _ _ m1
        refine ⟨_, sT _ _ hD26, by rw [List.length_map, m2]; omega, ts ++ [t], by rw [upd_same, List.map_append]; rfl, by rw [List.length_append, m2]; rfl, fun j u hj => ?_, fun b' u e' => ?_⟩
        · rcases Nat.lt_or_ge j ts.length with c | c
          · rw [List.getElem?_append_left c] at hj
            have z := sT _ _ (n2 _ _ (m3 j u hj))
            rw [upd_ne (ne_of z (sT _ _ hD26) (by intro z; cases z))]
            exact z
          · rw [List.getElem?_append_right c] at hj
            have c0 : j - ts.length = 0 := by
              rcases Nat.eq_zero_or_pos (j - ts.length) with w | w
              · exact w
              · rw [List.getElem?_eq_none (by simp; omega)] at hj
                exact nomatch hj
            rw [c0] at hj
            obtain rfl : t = u := Option.some.inj hj
            have ej : j = i := by omega
            subst ej
            rw [upd_ne (ne_of_none hD26 ht).symm, upd_same, getR j hio, List.map_map]
            rfl
        · rw [upd_ne (ne_of_none e' hD2)]
          exact sT _ _ (n2 _ _ (m4 b' u e'))
    · rintro H4 ⟨ts, m1, m2, m3, m4⟩
      rw [List.length_map] at m2
      refine ⟨D2, _, rfl, .inl ⟨SqL.of m1, fun tr htr => ?_⟩⟩
      have s4 := same_new htr (.tup (ts.map V.ref))
      have etr : upd H4 tr (.tup (ts.map V.ref)) tr = some (.tup (ts.map V.ref)) := upd_same
      have m3' := fun j t hj => s4 _ _ (m3 j t hj)
      have s34 := m4.trans s4
      show gName 6 _ _ (upd H4 tr (.tup (ts.map V.ref))) _
      generalize upd H4 tr (.tup (ts.map V.ref)) = H5 at s4 etr m3' s34 ⊢
      refine ⟨_, rfl, _, rfl, l, _, rfl, SqL.of (s34 _ _ gl), fun D4 hD4 => ?_⟩
      refine lc_it walk_enum (fun i H' => H' D4 = some (.lst (((List.range i).filter fun j => decide (o.getD j 0 ∈ ends)).map nI)) ∧ Same H5 H') ⟨upd_same, same_new hD4 _⟩ (fun i H' _ ⟨_, s⟩ => s.seq (SqL.of (s34 _ _ gl))) ?_ ?_
      · rintro i x H6 H7 hi ⟨n1, n2⟩ ⟨T1, x1, y1, rfl, hT, rfl, e1, e2⟩
        obtain rfl : V.int (i : Nat) = x1 := Option.some.inj e1
        obtain ⟨hio, rfl⟩ := item e2
        have hmem : o.getD i 0 ∈ o := List.mem_of_getElem? (getD_at hio)
        have n1' := (upd_ne (o := .tup [V.int (i : Nat), nI (o.getD i 0)]) (ne_of_none n1 hT)).trans n1
        have n2' := n2.trans (same_new hT (.tup [V.int (i : Nat), nI (o.getD i 0)]))
        have hfl : ((flagsOf rows.length ends).map V.bl)[o.getD i 0]? = some (.bl (decide (o.getD i 0 ∈ ends))) := by
          unfold flagsOf
          rw [List.getElem?_map, List.getElem?_map, List.getElem?_range (R.lt _ hmem)]
          rfl
        refine ⟨T1, _, rfl, SqT.of upd_same, rfl, _, _, rfl, _, _, rfl, rfl, rfl, _, rfl, _, rfl, lf, _, _, _, rfl, rfl, SqL.of (n2' _ _ (s34 _ _ g3)), atI_nat hfl, _, rfl, ?_⟩
        generalize upd H6 T1 (.tup [V.int (i : Nat), nI (o.getD i 0)]) = H8 at n1' n2' ⊢
        refine ite2 (fun c => ⟨_, rfl, _, n1', ?_, ?_, fun b u e => ?_⟩) (fun c => ⟨?_, n2'⟩)
        · rw [List.length_map]
          refine Nat.lt_of_le_of_lt (List.length_filter_le _ _) ?_
          rw [List.length_range]
          omega
        · rw [upd_same, List.range_succ, List.filter_append, List.map_append]
          rw [show ([i].filter fun j => decide (o.getD j 0 ∈ ends)) = [i] by rw [List.filter_cons]; rw [if_pos c]; rfl]
          rfl
        · rw [upd_ne (ne_of_none e hD4)]
          exact n2' b u e
        · rw [n1', List.range_succ, List.filter_append]
          rw [show ([i].filter fun j => decide (o.getD j 0 ∈ ends)) = [] by rw [List.filter_cons]; rw [if_neg c]; rfl]
          rw [List.append_nil]
      · rintro H6 ⟨n1, n2⟩
        rw [List.length_map] at n1
        refine ⟨D4, _, rfl, .inl ⟨SqL.of n1, fun te hte => ⟨(by show 2 ≤ sizeLine; decide), fun t ht => ?_⟩⟩⟩
        have s5 := n2.trans (same_new hte (.tup ((endsAt o ends).map nI)))
        have s6 := s5.trans (same_new ht (.tup [.ref tr, .ref te]))
        refine q t (.ref tr) (.ref te) _ ((s2.trans s3).trans (s34.trans s6)) (((s2.trans s3).trans (s34.trans s5)).free ht) upd_same ⟨tr, ts.map V.ref, rfl, .inl (.inl (s6 _ _ etr)), by rw [List.length_map, m2, lr], fun j b r h1 h2 => ?_⟩ ⟨te, rfl, .inl (.inl ?_)⟩
        · rw [List.getElem?_map] at h1
          obtain ⟨u, hu', rfl⟩ := Option.map_eq_some_iff.mp h1
          refine ⟨u, rfl, .inl (.inl ?_)⟩
          have z := s6 _ _ (m3' j u hu')
          rw [List.getD_eq_getElem?_getD, h2] at z
          exact z
        · exact same_new ht _ _ _ upd_same
end
end Vf

set_option Elab.async false
set_option linter.all false
set_option maxRecDepth 100000
set_option maxHeartbeats 4000000
namespace PySem
open AutoSeq1 (wpAny_loadPart')
theorem meets_enumerate_newT (l : Addr) (items : Array Value) (n : Nat) (dct : Option Addr) (sl : Array (Option Value)) :
    Meets (Builtin.«enumerate.__new__» ⟨[.type "enumerate", .ref l], []⟩) (fun _ R s => s.heap.get? l = some { cls := .type "tuple", dict := dct, data := .seq items n, slots := sl } ∧
      R (.ok (.ret (.ref (s.heap.push { cls := .type "tuple_iterator", data := .fields #[.ref l, .int 0 0] }).objs.size)))
        { s with heap := (s.heap.push { cls := .type "tuple_iterator", data := .fields #[.ref l, .int 0 0] }).push { cls := .type "enumerate", data := .fields #[.none, .bool false, .ref s.heap.objs.size, rawInt 0, .none, .none] } }) :=
  .of_wp fun prog w A R s h => by
    obtain ⟨hp, g, d, tk, os⟩ := s
    obtain ⟨hl, h⟩ := h
    have hsub := sub_enumerate
    have hL : Heap.IsTuple (Shared.heap ⟨hp, g, d, tk, os⟩) l items := ⟨_, hl, rfl, n, rfl⟩
    wp_walk using wpAny_loadPart' hl
    refine wpAny_stack_any fun st => wpAny_pure ?_
    split
    · rename_i c _ _ _ _ _
      cases (c == Value.type "enumerate") <;> (wp_walk using wpAny_loadPart' hl, wpAny_pyIter_tuple hL; exact ⟨_, rfl, h⟩)
    · wp_walk using wpAny_loadPart' hl, wpAny_pyIter_tuple hL
      exact ⟨_, rfl, h⟩
section
variable {prog : Program} {w : World} {A : Around} {E : Value → Shared → Prop} {s : Shared}
theorem call_enumerate_tup {l : Addr} {items : Array Value} {Q : Value → Shared → Prop} (hL : s.heap.IsTuple l items)
    (h : ∀ h', IsEnum h' (s.heap.objs.size + 1) s.heap.objs.size 0 .none → h'.IsTupleIter s.heap.objs.size l 0 → (∀ b o, s.heap.get? b = some o → h'.get? b = some o) → Q (.ref (s.heap.objs.size + 1)) { s with heap := h' }) :
    wpAny (model prog w) A (call (.type "enumerate") [.ref l]) Q E s := by
  obtain ⟨⟨c, dct, dt, sl⟩, hl, hc, n, hd⟩ := hL
  obtain rfl : c = .type "tuple" := hc
  obtain rfl : dt = .seq items n := hd
  refine callType_new F.called_enumerate (by decide) (F.typeCall_enumerate_1 _) (F.newCall_enumerate_1 _) (fun obj => F.args_object_init_2 obj _) F.entry_enumerate_new (meets_enumerate_newT l items n dct sl) ⟨hl, ?_⟩
  have hz : (s.heap.push { cls := .type "tuple_iterator", data := .fields #[.ref l, .int 0 0] }).objs.size = s.heap.objs.size + 1 := Heap.size_push ..
  show _ ∧ _
  rw [hz]
  have he := Heap.get?_push_size (s.heap.push { cls := .type "tuple_iterator", data := .fields #[.ref l, .int 0 0] }) (o := { cls := .type "enumerate", data := .fields #[.none, .bool false, .ref s.heap.objs.size, rawInt 0, .none, .none] }) rfl
  rw [hz] at he
  exact ⟨⟨_, he, rfl⟩, h _ he ⟨_, Heap.get?_push_of_some _ (Heap.get?_push_size _ rfl), rfl, rfl⟩ fun b o x => Heap.get?_push_of_some _ (Heap.get?_push_of_some _ x)⟩
end
end PySem
namespace Vs
open PySem PySem.Spec PyProof.Rows L2
/-! ### enumerate of a tuple -/
def ItT (K : PySem.W.Frag) (a : Addr) : It :=
  ⟨fun i H => ∃ (xs : List V) (x : V), SqT K H a xs ∧ xs[i]? = some x, fun i H v H' => ∃ T x, v = .ref T ∧ H T = none ∧ H' = upd H T (.tup [.int (i : Nat), x]) ∧ ∀ xs, SqT K H a xs → xs[i]? = some x, fun i H => ∃ xs : List V, SqT K H a xs ∧ xs.length = i⟩
theorem turn_enumT {P : Program} {w : World} {K : PySem.W.Frag} {elts : List Expr} {kk : Nat} {tpos : Pos} (a e it : Addr) :
    Turn P w K (.Tuple elts kk tpos) (ItT K a) [e, it] e (fun i h => (∃ old, IsEnum h e it ((i : Nat) : Int) old) ∧ h.IsTupleIter it a i ∧ e ≠ it) where
  mem := by simp
  obj := fun i h st b hb => by
    obtain ⟨⟨old, he⟩, ⟨o, ho, hc, hd⟩, _⟩ := st
    have e' : b = e ∨ b = it := by simpa using hb
    rcases e' with rfl | rfl
    · exact ⟨_, he, fun v q => nomatch q⟩
    · exact ⟨o, ho, fun v q => by rw [hd] at q; cases q⟩
  keep := fun i h h' st k => let ⟨⟨old, he⟩, ⟨o, ho, r⟩, hne⟩ := st; ⟨⟨old, k e (by simp) _ he⟩, ⟨o, k it (by simp) o ho, r⟩, hne⟩
  item := by
    intro X hP hw hK hc i pins s σ H E I hf st hg
    subst hP hw hK
    obtain ⟨⟨old, he⟩, hit, hne⟩ := st
    obtain ⟨xs, x, hq, hx⟩ := hg
    obtain ⟨its, rv, p, hz⟩ := I.tuple hq
    have hi : i < its.toArray.size := by
      have z := (List.getElem?_eq_some_iff.mp hx).1
      rw [rv.length] at z
      simpa using z
    obtain ⟨u, hu, ru⟩ := rv.get hx
    have hel : e < s.heap.objs.size := Heap.lt_size he
    have hil : it < s.heap.objs.size := by obtain ⟨_, q, _⟩ := hit; exact Heap.lt_size q
    have ta : ∀ c, c = e ∨ c = it → a ≠ c := fun c hc z => by
      obtain ⟨o1, q1, c1, n1, d1⟩ := p
      rcases hc with rfl | rfl
      · rw [z, show s.heap.get? _ = some _ from he] at q1
        cases Option.some.inj q1
        exact absurd (Value.type.inj c1) (by decide)
      · obtain ⟨o2, q2, c2, _⟩ := hit
        rw [z, q2] at q1
        cases Option.some.inj q1
        rw [c2] at c1
        exact absurd (Value.type.inj c1) (by decide)
    have D := Draws.tuple (prog := X.prog) (w := X.w) (A := X.A.in1) (by exact I.ok.hd hc) it a (ta it (.inr rfl)) its.toArray
    refine wpAny_pyNext_enum_itemC D he ⟨hit, p⟩ hi hne (by simp [hne, (ta e (.inl rfl)).symm]) fun y h' tk hy ho st' hT hsz hk => ?_
    obtain rfl : u = y := by
      have z : its.toArray[i]? = some u := by simpa using hu
      exact Option.some.inj (z.symm.trans hy)
    refine ⟨_, rfl, wpAny_letOwnedTupleGo_enum (s := { s with heap := h', toks := tk + 1 }) ho fun h'' he' sb => ?_⟩
    have hT2 : h''.get? s.heap.objs.size = some { cls := .type "tuple", data := .seq #[.int i tk, u] } := (sb.2 _ (Nat.ne_of_gt hel)).trans hT
    have new : ObjOk X.prog X.w (upd H s.heap.objs.size (.tup [.int (i : Nat), x])) h'' s.heap.objs.size (.tup [.int (i : Nat), x]) :=
      ⟨by show 2 ≤ sizeLine; decide, [.int i tk, u], .cons ⟨_, rfl⟩ (.cons ru .nil), ⟨_, hT2, rfl, _, rfl⟩⟩
    have I1 := I.turnedNew (t' := tk + 1) (ch := [e, it]) (fun b ob hb q => (sb.2 b (fun z => hb (by simp [z]))).trans (hk b ob (fun z => hb (by simp [z])) (fun z => hb (by simp [z])) q)) hf (Nat.le_refl _) new
    refine ⟨.ref s.heap.objs.size, _, I1, rfl, ⟨_, x, rfl, I.hok.fresh (Nat.le_refl _), rfl, fun ys hy => by rw [I.tuple_inj hy hq]; exact hx⟩, ⟨⟨u, ?_⟩, ?_, hne⟩, fun b hb => ?_⟩
    · rw [show ((i + 1 : Nat) : Int) = (i : Int) + 1 by omega]
      exact he'
    · obtain ⟨o, q, r⟩ := st'.1
      exact ⟨o, (sb.2 it (Ne.symm hne)).trans q, r⟩
    · have hb' : b < s.heap.objs.size := by
        have e' : b = e ∨ b = it := by simpa using hb
        rcases e' with rfl | rfl
        · exact hel
        · exact hil
      rw [upd_ne (Nat.ne_of_lt hb')]
      exact (hf b hb).1
  done := by
    intro X hP hw hK hc i pins s σ H E I hf st hg
    subst hP hw hK
    obtain ⟨⟨old, he⟩, hit, hne⟩ := st
    obtain ⟨xs, hq, hx⟩ := hg
    obtain ⟨its, rv, p, hz⟩ := I.tuple hq
    obtain ⟨f0, f1, f2, f3, f4, f5⟩ := hf it (by simp)
    have hi : its.toArray.size = i := by rw [← hx, rv.length]; simp
    have ta : a ≠ it := fun z => by
      obtain ⟨o1, q1, c1, n1, d1⟩ := p
      obtain ⟨o2, q2, c2, _⟩ := hit
      rw [z, q2] at q1
      cases Option.some.inj q1
      rw [c2] at c1
      exact absurd (Value.type.inj c1) (by decide)
    have D := Draws.tuple (prog := X.prog) (w := X.w) (A := X.A.in1) (by exact I.ok.hd hc) it a ta its.toArray
    subst hi
    exact wpAny_pyNext_enum_endD D he ⟨hit, p⟩ fun h' eb => ⟨rfl, I.turned (t' := s.toks) (fun b o hb q => eb b o hb q) f0 f1 f3 f4 f5⟩
  self := fun A i s Q E st h => let ⟨⟨_, he⟩, _⟩ := st; wpAny_pyIter_enum he h
def iEnumT (K : PySem.W.Frag) (ta : TA) : TI := fun σ H R => ta σ H fun vs H1 => ∃ a xs, vs = [.ref a] ∧ SqT K H1 a xs ∧ R (ItT K a) H1
theorem pi_enumT {X : Cx} {e : Expr} {ta : TA} {p pos tpos : Pos} {elts : List Expr} {kk : Nat} (hg : Gl X "enumerate") (hm : X.mg "enumerate" = none) (ha : PA X [e] ta) (hs : starEach [e] X.env = [(false, eval e X.env)] := by rfl) :
    PI X (.Tuple elts kk tpos) (.Call (.Name "enumerate" p) [e] [] pos) (iEnumT X.K ta) := by
  refine ⟨fun pins s σ H R I h => ?_⟩
  refine Call_ (ld_blt I hg hm boot_enumerate (PyProof.Rows.callWith_type1 (thn (ha.run pos pins s σ H _ I h) fun us s1 q1 => ?_) hs rfl))
  obtain ⟨vs, H1, I1, r1, a, xs, rfl, hq, q⟩ := q1
  obtain ⟨u, rfl, rx⟩ := vals1 r1
  cases rx
  obtain ⟨its, rv, p', hz⟩ := I1.tuple hq
  refine call_enumerate_tup p' fun h' he hit hk => wpAny_pyIter_enum he ?_
  have I2 : Inv X pins σ H1 { s1 with heap := h' } := I1.kept (t' := s1.toks) hk
  refine ⟨s1.heap.objs.size + 1, [s1.heap.objs.size + 1, s1.heap.objs.size], _, _, H1, rfl, I2, turn_enumT a (s1.heap.objs.size + 1) s1.heap.objs.size, ⟨⟨.none, he⟩, hit, Nat.succ_ne_self _⟩, fun b hb => ?_, q⟩
  have hle : s1.heap.objs.size ≤ b := by
    have e' : b = s1.heap.objs.size + 1 ∨ b = s1.heap.objs.size := by simpa using hb
    rcases e' with z | z <;> rw [z]
    · exact Nat.le_add_right _ _
    · exact Nat.le_refl _
  exact I1.fpOk hle (I1.hok.fresh hle)
theorem walk_enumT {K : PySem.W.Frag} {a : Addr} {xs : List V} : Walk (ItT K a) xs.length (fun H => SqT K H a xs) (YPair (fun i => some (.int (i : Nat))) (fun i => xs[i]?)) := by
  refine ⟨fun i _ hi q => ⟨xs, xs[i], q, by simp [hi]⟩, fun _ q => ⟨xs, q, rfl⟩, fun i H v H' _ q y => ?_⟩
  obtain ⟨T, x, h1, h2, h3, h4⟩ := y
  exact ⟨T, .int (i : Nat), x, h1, h2, h3, rfl, h4 xs q⟩
end Vs

set_option Elab.async false
set_option linter.all false
set_option maxRecDepth 100000
set_option maxHeartbeats 4000000
namespace Vf
open PySem PySem.Spec PyProof.Rows L2 L2.Vx Vs
/-! ### sources_of -/
abbrev sSrc : Stmt := top 20
/-- where a letter leads -/
def nextOf (rows : List (List Nat)) (a s : Nat) : Nat := (rowOf rows s).getD a 0
def srcOf (rows : List (List Nat)) (a t : Nat) : List Nat := (List.range rows.length).filter fun s => nextOf rows a s == t
/-- a list of n lists: ts their places -/
structure LsAt (H : Hp) (l : Addr) (ts : List Addr) (n : Nat) (f : Nat → List Nat) : Prop where
  top : H l = some (.lst (ts.map V.ref))
  len : ts.length = n
  each : ∀ (j : Nat) (t : Addr), ts[j]? = some t → H t = some (.lst ((f j).map nI))
theorem LsAt.same {H H' : Hp} {l : Addr} {ts : List Addr} {n : Nat} {f : Nat → List Nat} (h : LsAt H l ts n f) (s : Same H H') : LsAt H' l ts n f := ⟨s _ _ h.top, h.len, fun j t e => s _ _ (h.each j t e)⟩
def spSrc (K : PySem.W.Frag) : Sp := fun vs H Q _ => ∃ (v : V) (rows : List (List Nat)) (a : Nat), vs = [v, nI a] ∧ RowsAt K H v rows ∧ RowsIn rows rows.length ∧ (∀ r ∈ rows, a < r.length) ∧ rows.length ≤ 1000 ∧
  ∀ l ts H', Same H H' → H l = none → (∀ t ∈ ts, H t = none) → LsAt H' l ts rows.length (srcOf rows a) → Q (.ref l) H'
theorem rowOf_at {rows : List (List Nat)} {s : Nat} (h : s < rows.length) : rows[s]? = some (rowOf rows s) := by
  unfold rowOf
  rw [List.getD_eq_getElem?_getD, List.getElem?_eq_getElem h]
  rfl
theorem next_at {rows : List (List Nat)} {a s : Nat} (h : s < rows.length) (hw : ∀ r ∈ rows, a < r.length) : (rowOf rows s)[a]? = some (nextOf rows a s) := getD_at (hw _ (List.mem_of_getElem? (rowOf_at h)))
section
variable {P : Program} {w : World} {K : PySem.W.Frag} {mg : Str → Option Value} {base : Heap}
theorem scSrc : FnScope ["rows", "at", "row", "found", "state"] ["rows", "at"] (defScope sSrc) := ⟨rfl, rfl, rfl, by decide +kernel, rfl, by decide +kernel, by decide +kernel⟩
theorem ok_src {f : Addr} {fd : FuncData} (F : Fun K "sources_of" "sources_of" sSrc f fd) (T : TxtM mg) : FnOk P w K mg base CX0 1 f fd ["rows", "at"] (spSrc K) := by
  refine F.ok scSrc (fun vs H Q E h => ?_) (fun cdv A outer s H vs Q E hr h => ?_)
  · obtain ⟨v, rows, a, rfl, _⟩ := h
    rfl
  obtain ⟨v, rows, a, rfl, hR, hin, hw, hm, q⟩ := h
  refine ⟨_, pss_cons (ps_setLc (i := 3) (own := [("row", 2)]) (g := gName 2) (tt := tYes) rfl scSrc.nd rfl rfl (sw_true rfl rfl rfl (by decide +kernel)) (pi_tup (pv 0))
        (blkOk_by (N := ["rows", "at", "row", "found", "state"]) (sc := defScope sSrc) (by decide +kernel)) (fun _ _ _ _ _ => pg_name (i := 2) scSrc.nd rfl (Or.inl rfl)) (fun _ _ _ _ _ => pts_nil) (fun _ _ _ _ _ => by exact pe_lst pa_nil))
    (pss_cons (ps_for PassesOwn.never rfl (pi_enumT (by rfl) T.enu (pa_cons (pv 0) pa_nil)) (pg_tup rfl (pgs_cons (pg_name (i := 4) scSrc.nd rfl (Or.inl rfl)) (pgs_cons (pg_name (i := 2) scSrc.nd rfl (Or.inl rfl)) pgs_nil)))
      (pss_one (ps_expr (pe_bm PySem.F.plainAttrs_list PySem.F.slot_list_append PySem.F.type_list_append mt_append (pe_ix ix_list (pv 3) (pe_ix ix_tup (pv 2) (pv 1) (fun _ _ => rfl)) (fun _ _ => rfl)) (pa_cons (pv 4) pa_nil)))))
    (pss_one (ps_ret (pv 3)))), ?_⟩
  obtain ⟨va, bs, rfl, hva, hbl, hrows⟩ := id hR
  refine ⟨_, rfl, va, rfl, ⟨_, hva⟩, fun D hD => ?_⟩
  refine lc_it (walk_tup (xs := bs)) (fun i H' => ∃ ts : List Addr, H' D = some (.lst (ts.map V.ref)) ∧ ts.length = i ∧ ts.Nodup ∧ (∀ t ∈ ts, t ≠ D ∧ H t = none ∧ H' t = some (.lst [])) ∧ Same H H')
    ⟨[], upd_same, rfl, List.nodup_nil, (fun _ z => nomatch z), same_new hD _⟩ (fun i H' _ ⟨_, _, _, _, _, s⟩ => same_T s hva) ?_ ?_
  · rintro i x H1 H2 hi ⟨ts, k1, k2, k3, k4, k5⟩ ⟨rfl, hx⟩
    refine ⟨rfl, Nat.zero_le _, fun t ht => ?_⟩
    have s1 := same_new ht (.lst [])
    have tD : t ≠ D := (ne_of_none k1 ht).symm
    refine ⟨_, s1 _ _ k1, by rw [List.length_map, k2]; exact Nat.lt_of_lt_of_le hi (by rw [hbl]; exact Nat.le_trans hm (by decide)), ts ++ [t], by rw [upd_same, List.map_append]; rfl, by rw [List.length_append, k2]; rfl, ?_, fun u hu => ?_, fun b o e => ?_⟩
    · refine List.nodup_append.mpr ⟨k3, by simp, fun c hc d hd e => ?_⟩
      rw [List.mem_singleton.mp hd] at e
      have z := (k4 c hc).2.2
      rw [e, ht] at z
      exact nomatch z
    · rcases List.mem_append.mp hu with hu | hu
      · exact ⟨(k4 u hu).1, (k4 u hu).2.1, by rw [upd_ne (k4 u hu).1]; exact s1 _ _ (k4 u hu).2.2⟩
      · rw [List.mem_singleton.mp hu]
        exact ⟨tD, k5.free ht, by rw [upd_ne tD, upd_same]⟩
    · rw [upd_ne (ne_of_none e hD)]
      exact s1 _ _ (k5 b o e)
  · rintro H1 ⟨ts, k1, k2, k3, k4, k5⟩
    refine ⟨_, rfl, va, bs, rfl, same_T k5 hva, ?_⟩
    refine for_it (walk_enumT (xs := bs)) (fun i σ H' => ∃ v2 v4 : Option V, σ = [some (.ref va), some (nI a), v2, some (.ref D), v4] ∧ H' D = some (.lst (ts.map V.ref)) ∧
      (∀ (j : Nat) (t : Addr), ts[j]? = some t → H' t = some (.lst (((List.range i).filter fun s => nextOf rows a s == j).map nI))) ∧ Same H H')
      ⟨none, none, rfl, k1, fun j t e => (k4 t (List.mem_of_getElem? e)).2.2, k5⟩ (fun i σ H' _ ⟨_, _, _, _, _, s⟩ => same_T s hva) ?_ ?_
    · rintro i x σ H2 H3 hi ⟨v2, v4, rfl, m1, m2, m3⟩ ⟨T1, x1, y1, rfl, hT, rfl, e1, e2⟩
      obtain rfl : V.int (i : Nat) = x1 := Option.some.inj e1
      have hil : i < rows.length := by rw [← hbl]; exact hi
      obtain ⟨b, rfl, hb⟩ := hrows i y1 _ e2 (rowOf_at hil)
      have sT := same_new hT (.tup [V.int (i : Nat), .ref b])
      have hn := next_at hil hw
      have hnl : nextOf rows a i < ts.length := by
        rw [k2, hbl]
        exact rowOf_mem hin _ (List.mem_of_getElem? hn)
      obtain ⟨t, ht⟩ : ∃ t, ts[nextOf rows a i]? = some t := ⟨_, List.getElem?_eq_getElem hnl⟩
      have hmt := m2 _ _ ht
      have hH : t ≠ D := (k4 t (List.mem_of_getElem? ht)).1
      refine ⟨T1, _, rfl, SqT.of upd_same, rfl, _, _, rfl, _, _, rfl, rfl, ?_⟩
      refine ⟨_, rfl, _, rfl, _, rfl, b, _, _, nI (nextOf rows a i), rfl, rfl, same_T (m3.trans sT) hb, atI_nat (by rw [List.getElem?_map, hn]; rfl), D, _, _, .ref t, rfl, rfl, SqL.of (sT _ _ m1), atI_nat (by rw [List.getElem?_map, ht]; rfl), .inl ⟨rfl, _, SqL.of (sT _ _ hmt)⟩, _, rfl, t, _, _, rfl, rfl, sT _ _ hmt, ?_, _, _, rfl, ?_, fun j u hj => ?_, fun c o e => ?_⟩
      · rw [List.length_map]
        refine Nat.lt_of_le_of_lt (List.length_filter_le _ _) ?_
        rw [List.length_range]
        exact Nat.lt_of_lt_of_le hil (Nat.le_trans hm (by decide))
      · rw [upd_ne hH.symm]
        exact sT _ _ m1
      · by_cases c : j = nextOf rows a i
        · subst c
          rw [ht] at hj
          obtain rfl : t = u := Option.some.inj hj
          rw [upd_same, List.range_succ, List.filter_append, List.map_append]
          simp
        · have tu : u ≠ t := fun z => by
            subst z
            have h1 := (List.getElem?_eq_some_iff.mp hj)
            have h2 := (List.getElem?_eq_some_iff.mp ht)
            obtain ⟨l1, q1⟩ := h1
            obtain ⟨l2, q2⟩ := h2
            rcases Nat.lt_trichotomy j (nextOf rows a i) with z | z | z
            · exact List.pairwise_iff_getElem.mp k3 _ _ l1 l2 z (q1.trans q2.symm)
            · exact c z
            · exact List.pairwise_iff_getElem.mp k3 _ _ l2 l1 z (q2.trans q1.symm)
          rw [upd_ne tu, List.range_succ, List.filter_append]
          rw [show ([i].filter fun s => nextOf rows a s == j) = [] by rw [List.filter_cons, if_neg (by simp; exact fun z => c z.symm)]; rfl]
          rw [List.append_nil]
          exact sT _ _ (m2 j u hj)
      · have hct : c ≠ t := fun z => by
          have y := (k4 t (List.mem_of_getElem? ht)).2.1
          rw [← z, e] at y
          exact nomatch y
        rw [upd_ne hct]
        exact sT _ _ (m3 c o e)
    · rintro σ H2 ⟨v2, v4, rfl, m1, m2, m3⟩
      refine ⟨_, rfl, q D ts H2 m3 hD (fun t ht => (k4 t ht).2.1) ⟨m1, by rw [k2, hbl], fun j t hj => ?_⟩⟩
      rw [m2 j t hj, hbl]
      rfl
end
end Vf

set_option Elab.async false
set_option linter.all false
set_option maxRecDepth 100000
set_option maxHeartbeats 4000000
namespace Vf
open PySem PySem.Spec PyProof.Rows L2 L2.Vx Vs
/-! ### dicts from numbers to lists -/
abbrev refK (es : List (Nat × Addr)) : List (Key × V) := es.map fun p => ((Sum.inl ((p.1 : Nat) : Int) : Key), V.ref p.2)
theorem refK_none {es : List (Nat × Addr)} {c : Nat} (h : c ∉ es.map (·.1)) : valV (refK es) (Sum.inl (c : Int)) = none :=
  valV_none (fun p : Nat × Addr => (Sum.inl ((p.1 : Nat) : Int) : Key)) (fun p => V.ref p.2) _ es fun p hp e => h (List.mem_map.mpr ⟨p, hp, by have z := Sum.inl.inj e; omega⟩)
theorem pair_inj {es : List (Nat × Addr)} (nd : (es.map (·.1)).Nodup) {p q : Nat × Addr} (hp : p ∈ es) (hq : q ∈ es) (e : p.1 = q.1) : p = q := by
  obtain ⟨i, hi, rfl⟩ := List.getElem_of_mem hp
  obtain ⟨j, hj, rfl⟩ := List.getElem_of_mem hq
  have f := List.pairwise_iff_getElem.mp nd
  rcases Nat.lt_trichotomy i j with c | c | c
  · exact absurd (by rw [List.getElem_map, List.getElem_map]; exact e) (f i j (by simpa using hi) (by simpa using hj) c)
  · subst c; rfl
  · exact absurd (by rw [List.getElem_map, List.getElem_map]; exact e.symm) (f j i (by simpa using hj) (by simpa using hi) c)
theorem pair_inj2 {es : List (Nat × Addr)} (nd : (es.map (·.2)).Nodup) {p q : Nat × Addr} (hp : p ∈ es) (hq : q ∈ es) (e : p.2 = q.2) : p = q := by
  obtain ⟨i, hi, rfl⟩ := List.getElem_of_mem hp
  obtain ⟨j, hj, rfl⟩ := List.getElem_of_mem hq
  have f := List.pairwise_iff_getElem.mp nd
  rcases Nat.lt_trichotomy i j with c | c | c
  · exact absurd (by rw [List.getElem_map, List.getElem_map]; exact e) (f i j (by simpa using hi) (by simpa using hj) c)
  · subst c; rfl
  · exact absurd (by rw [List.getElem_map, List.getElem_map]; exact e.symm) (f j i (by simpa using hj) (by simpa using hi) c)
theorem refK_some {es : List (Nat × Addr)} (nd : (es.map (·.1)).Nodup) {c : Nat} {t : Addr} (h : (c, t) ∈ es) : valV (refK es) (Sum.inl (c : Int)) = some (.ref t) :=
  valV_some (fun p : Nat × Addr => (Sum.inl ((p.1 : Nat) : Int) : Key)) (fun p => V.ref p.2) _ (c, t) es h rfl fun p hp e => pair_inj nd hp h (by have z := Sum.inl.inj e; omega)
/-! ### hits_of -/
structure Hits (H : Hp) (d : Addr) (es : List (Nat × Addr)) (cl : Nat → Nat) (xs : List Nat) : Prop where
  top : H d = some (.dK (refK es))
  keys : (es.map (·.1)).Nodup
  places : (es.map (·.2)).Nodup
  each : ∀ p ∈ es, H p.2 = some (.lst ((xs.filter fun x => cl x == p.1).map nI))
  all : ∀ x ∈ xs, ∃ t, (cl x, t) ∈ es
  some : ∀ p ∈ es, ∃ x ∈ xs, cl x = p.1
theorem Hits.same {H H' : Hp} {d : Addr} {es : List (Nat × Addr)} {cl : Nat → Nat} {xs : List Nat} (h : Hits H d es cl xs) (s : Same H H') : Hits H' d es cl xs := ⟨s _ _ h.top, h.keys, h.places, fun p hp => s _ _ (h.each p hp), h.all, h.some⟩
theorem Hits.old {H : Hp} {d : Addr} {es : List (Nat × Addr)} {cl : Nat → Nat} {xs : List Nat} (h : Hits H d es cl xs) {x : Nat} {t : Addr} (ht : (cl x, t) ∈ es) :
    Hits (upd H t (.lst ((xs.filter fun y => cl y == cl x).map nI ++ [nI x]))) d es cl (xs ++ [x]) := by
  refine ⟨?_, h.keys, h.places, fun p hp => ?_, fun y hy => ?_, fun p hp => ?_⟩
  · rw [upd_ne (ne_of h.top (h.each _ ht) (by intro z; cases z))]
    exact h.top
  · by_cases c : p.2 = t
    · have e := pair_inj2 h.places hp ht c
      subst e
      rw [upd_same, List.filter_append, List.map_append]
      simp
    · have c1 : ¬ cl x = p.1 := fun z => c (by have e := pair_inj h.keys hp ht z.symm; rw [e])
      rw [upd_ne c, h.each p hp, List.filter_append]
      rw [show ([x].filter fun y => cl y == p.1) = [] by rw [List.filter_cons, if_neg (by simpa using c1)]; rfl, List.append_nil]
  · rcases List.mem_append.mp hy with hy | hy
    · exact h.all y hy
    · rw [List.mem_singleton.mp hy]; exact ⟨t, ht⟩
  · obtain ⟨y, hy, e⟩ := h.some p hp
    exact ⟨y, List.mem_append_left _ hy, e⟩
theorem Hits.new {H : Hp} {d z : Addr} {es : List (Nat × Addr)} {cl : Nat → Nat} {xs : List Nat} (h : Hits H d es cl xs) {x : Nat} (hn : cl x ∉ es.map (·.1)) (hz : z ≠ d) (hp : ∀ p ∈ es, p.2 ≠ z) :
    Hits (upd (upd H d (.dK (refK es ++ [((Sum.inl ((cl x : Nat) : Int) : Key), V.ref z)]))) z (.lst [nI x])) d (es ++ [(cl x, z)]) cl (xs ++ [x]) := by
  have no : ∀ y ∈ xs, cl y ≠ cl x := fun y hy e => by
    obtain ⟨t, ht⟩ := h.all y hy
    exact hn (List.mem_map.mpr ⟨_, ht, e⟩)
  refine ⟨?_, ?_, ?_, fun p q => ?_, fun y hy => ?_, fun p q => ?_⟩
  · rw [upd_ne hz.symm, upd_same]
    unfold refK
    rw [List.map_append]
    rfl
  · rw [List.map_append]
    exact List.nodup_append.mpr ⟨h.keys, by simp, fun a ha b hb e => hn (by rw [List.mem_singleton.mp hb] at e; rw [show a = cl x from e] at ha; exact ha)⟩
  · rw [List.map_append]
    refine List.nodup_append.mpr ⟨h.places, by simp, fun a ha b hb e => ?_⟩
    rw [List.mem_singleton.mp hb] at e
    obtain ⟨p, q, rfl⟩ := List.mem_map.mp ha
    exact hp p q e
  · rcases List.mem_append.mp q with q | q
    · have c1 : ¬ cl x = p.1 := fun z => hn (List.mem_map.mpr ⟨p, q, z.symm⟩)
      rw [upd_ne (hp p q), upd_ne (ne_of (h.each p q) h.top (by intro z; cases z)), h.each p q, List.filter_append]
      rw [show ([x].filter fun y => cl y == p.1) = [] by rw [List.filter_cons, if_neg (by simpa using c1)]; rfl, List.append_nil]
    · rw [List.mem_singleton.mp q]
      show upd _ z _ z = _
      rw [upd_same, List.filter_append]
      rw [show (xs.filter fun y => cl y == cl x) = [] from List.filter_eq_nil_iff.mpr fun y hy => by simpa using no y hy]
      simp
  · rcases List.mem_append.mp hy with hy | hy
    · obtain ⟨t, ht⟩ := h.all y hy
      exact ⟨t, List.mem_append_left _ ht⟩
    · rw [List.mem_singleton.mp hy]
      exact ⟨z, List.mem_append_right _ (List.mem_singleton.mpr rfl)⟩
  · rcases List.mem_append.mp q with q | q
    · obtain ⟨y, hy, e⟩ := h.some p q
      exact ⟨y, List.mem_append_left _ hy, e⟩
    · rw [List.mem_singleton.mp q]
      exact ⟨x, List.mem_append_right _ (List.mem_singleton.mpr rfl), rfl⟩
theorem Hits.few {H : Hp} {d : Addr} {es : List (Nat × Addr)} {cl : Nat → Nat} {xs : List Nat} (h : Hits H d es cl xs) : es.length ≤ xs.length := by
  have q : ∀ (l r : List Nat), l.Nodup → (∀ k ∈ l, k ∈ r) → l.length ≤ r.length := by
    intro l
    induction l with
    | nil => intro r _ _; exact Nat.zero_le _
    | cons x l ih =>
      intro r d s
      obtain ⟨d1, d2⟩ := List.nodup_cons.mp d
      have p := (List.perm_cons_erase (s x (List.mem_cons_self ..))).length_eq
      have q := ih (r.erase x) d2 fun k hk => (List.mem_erase_of_ne fun z : k = x => d1 (by rw [← z]; exact hk)).mpr (s k (List.mem_cons_of_mem _ hk))
      simp only [List.length_cons] at p ⊢
      omega
  have z := q (es.map (·.1)) (xs.map cl) h.keys fun k hk => by
    obtain ⟨p, hp, rfl⟩ := List.mem_map.mp hk
    obtain ⟨x, hx, e⟩ := h.some p hp
    exact List.mem_map.mpr ⟨x, hx, e⟩
  rw [List.length_map, List.length_map] at z
  exact z
abbrev sHits : Stmt := top 21
def clsOf (cs : List Nat) (x : Nat) : Nat := cs.getD x 0
def spHits : Sp := fun vs H Q _ => ∃ (ls li lc : Addr) (ts : List Addr) (n : Nat) (f : Nat → List Nat) (inside cs : List Nat), vs = [.ref ls, .ref li, .ref lc] ∧ LsAt H ls ts n f ∧ H li = some (.lst (inside.map nI)) ∧ H lc = some (.lst (cs.map nI)) ∧ cs.length = n ∧
  (∀ t ∈ inside, t < n) ∧ (∀ t ∈ inside, ∀ x ∈ f t, x < n) ∧ (inside.flatMap f).length ≤ 10000 ∧
  ∀ d es H', Same H H' → H d = none → (∀ p ∈ es, H p.2 = none) → Hits H' d es (clsOf cs) (inside.flatMap f) → Q (.ref d) H'
section
variable {P : Program} {w : World} {K : PySem.W.Frag} {mg : Str → Option Value} {base : Heap}
theorem scHits : FnScope ["sources", "inside", "classes", "hits", "target", "state"] ["sources", "inside", "classes"] (defScope sHits) := ⟨rfl, rfl, rfl, by decide +kernel, rfl, by decide +kernel, by decide +kernel⟩
theorem ok_hits {f : Addr} {fd : FuncData} (F : Fun K "hits_of" "hits_of" sHits f fd) : FnOk P w K mg base CX0 1 f fd ["sources", "inside", "classes"] spHits := by
  refine F.ok scHits (fun vs H Q E h => ?_) (fun cdv A outer s H vs Q E hr h => ?_)
  · obtain ⟨ls, li, lc, ts, n, f, inside, cs, rfl, _⟩ := h
    rfl
  obtain ⟨ls, li, lc, ts, n, f, inside, cs, rfl, hL, hi, hc, hcn, hin, hsrc, hbig, q⟩ := h
  refine ⟨_, pss_cons (ps_set (i := 3) scHits.nd rfl (Or.inl rfl) pe_dnewK)
    (pss_cons (ps_for PassesOwn.never rfl (pi_list (pv 1)) (pg_name (i := 4) scHits.nd rfl (Or.inl rfl))
      (pss_one (ps_for PassesOwn.never rfl (pi_list (pe_ix ix_list (pv 0) (pv 4) (fun _ _ => rfl))) (pg_name (i := 5) scHits.nd rfl (Or.inl rfl))
        (pss_one (ps_expr (pe_bm PySem.F.plainAttrs_list PySem.F.slot_list_append PySem.F.type_list_append mt_append (pe_dsetd (pv 3) (pe_ix ix_list (pv 2) (pv 5) (fun _ _ => rfl)) (pe_lst pa_nil) ⟨rfl, rfl, rfl, rfl⟩) (pa_cons (pv 5) pa_nil)))))))
    (pss_one (ps_ret (pv 3)))), ?_⟩
  intro d hd
  have s0 := same_new hd (.dK [])
  have e0 : upd H d (.dK []) d = some (.dK []) := upd_same
  show tSeq _ _ _ _ (upd H d (.dK []))
  generalize upd H d (.dK []) = H1 at s0 e0 ⊢
  refine ⟨_, rfl, li, rfl, ⟨_, SqL.of (s0 _ _ hi)⟩, ?_⟩
  refine for_it (walk_list (xs := inside.map nI)) (fun i σ H' => ∃ (v4 v5 : Option V) (es : List (Nat × Addr)), σ = [some (.ref ls), some (.ref li), some (.ref lc), some (.ref d), v4, v5] ∧ Hits H' d es (clsOf cs) ((inside.take i).flatMap f) ∧ (∀ p ∈ es, H p.2 = none) ∧ Same H H')
    ⟨none, none, [], rfl, ⟨e0, List.nodup_nil, List.nodup_nil, (fun _ z => nomatch z), (fun _ z => nomatch z), (fun _ z => nomatch z)⟩, (fun _ z => nomatch z), s0⟩ (fun i σ H' _ ⟨_, _, _, _, _, _, s⟩ => s.seq (SqL.of hi)) ?_ ?_
  · rintro i x σ H2 H3 hlt ⟨v4, v5, es, rfl, k1, k2, k3⟩ ⟨rfl, hx⟩
    rw [List.getElem?_map] at hx
    obtain ⟨t, ht, rfl⟩ := Option.map_eq_some_iff.mp hx
    have hmem := List.mem_of_getElem? ht
    have htn := hin t hmem
    obtain ⟨a, ha⟩ : ∃ a, ts[t]? = some a := ⟨_, List.getElem?_eq_getElem (by rw [hL.len]; exact htn)⟩
    have hLa := hL.each t a ha
    have nx : (inside.take (i + 1)).flatMap f = (inside.take i).flatMap f ++ f t := by
      rw [List.take_add_one, ht, List.flatMap_append]
      simp
    have small : ∀ j, ((inside.take i).flatMap f ++ (f t).take j).length ≤ 10000 := fun j => by
      refine Nat.le_trans ?_ hbig
      have e : inside.flatMap f = ((inside.take i).flatMap f ++ f t) ++ (inside.drop (i + 1)).flatMap f := by rw [← nx, ← List.flatMap_append, List.take_append_drop]
      rw [e, List.length_append, List.length_append, List.length_append]
      have := List.length_take_le' j (f t)
      omega
    rw [nx]
    refine ⟨_, rfl, _, rfl, ls, _, _, .ref a, rfl, rfl, SqL.of (k3 _ _ hL.top), atI_nat (by rw [List.getElem?_map, ha]; rfl), a, rfl, ⟨_, SqL.of (k3 _ _ hLa)⟩, ?_⟩
    refine for_it (walk_list (xs := (f t).map nI)) (fun j σ H' => ∃ (v5 : Option V) (es : List (Nat × Addr)), σ = [some (.ref ls), some (.ref li), some (.ref lc), some (.ref d), some (nI t), v5] ∧ Hits H' d es (clsOf cs) ((inside.take i).flatMap f ++ (f t).take j) ∧ (∀ p ∈ es, H p.2 = none) ∧ Same H H')
      ⟨v5, es, rfl, by rw [List.take_zero, List.append_nil]; exact k1, k2, k3⟩ (fun i σ H' _ ⟨_, _, _, _, _, s⟩ => s.seq (SqL.of hLa)) ?_ ?_
    · rintro j y σ H4 H5 hj ⟨u5, es, rfl, m1, m2, m3⟩ ⟨rfl, hy⟩
      rw [List.getElem?_map] at hy
      obtain ⟨x, hx, rfl⟩ := Option.map_eq_some_iff.mp hy
      have hxn := hsrc t hmem x (List.mem_of_getElem? hx)
      have hcx : cs[x]? = some (clsOf cs x) := getD_at (by rw [hcn]; exact hxn)
      have nx2 : (inside.take i).flatMap f ++ (f t).take (j + 1) = ((inside.take i).flatMap f ++ (f t).take j) ++ [x] := by rw [List.take_add_one, hx, List.append_assoc]; rfl
      rw [nx2]
      have sm := small j
      generalize (inside.take i).flatMap f ++ (f t).take j = xs at m1 sm ⊢
      refine ⟨_, rfl, d, rfl, .inl ⟨_, .inl m1.top⟩, _, rfl, _, rfl, lc, _, _, nI (clsOf cs x), rfl, rfl, SqL.of (m3 _ _ hc), atI_nat (by rw [List.getElem?_map, hcx]; rfl), Nat.zero_le _, fun z hz => ?_⟩
      have s1 := same_new hz (.lst [])
      have ez : upd H5 z (.lst []) z = some (.lst []) := upd_same
      have m1' := m1.same s1
      have m3' := m3.trans s1
      have hzp : ∀ p ∈ es, p.2 ≠ z := fun p hp => ne_of_none (m1.each p hp) hz
      have hzH : H z = none := m3.free hz
      have hzd : z ≠ d := (ne_of_none m1.top hz).symm
      generalize upd H5 z (.lst []) = H6 at s1 ez m1' m3' ⊢
      refine ⟨refK es, Sum.inl (clsOf cs x : Int), m1'.top, rfl, ?_, fun v hv => ?_, fun hv => ?_⟩
      · rw [List.length_map]
        exact Nat.lt_of_le_of_lt (Nat.le_trans m1.few sm) (by decide)
      · by_cases c : clsOf cs x ∈ es.map (·.1)
        · obtain ⟨p, hp, e⟩ := List.mem_map.mp c
          obtain ⟨c1, a1⟩ := p
          obtain rfl : c1 = clsOf cs x := e
          rw [refK_some m1.keys hp] at hv
          obtain rfl : V.ref a1 = v := Option.some.inj hv
          have hl := m1'.each _ hp
          refine ⟨.inl ⟨rfl, _, SqL.of hl⟩, _, rfl, a1, _, _, rfl, rfl, hl, ?_, _, es, rfl, m1'.old hp, m2, fun b o e' => ?_⟩
          · rw [List.length_map]
            exact Nat.lt_of_le_of_lt (Nat.le_trans (List.length_filter_le _ _) sm) (by decide)
          · rw [upd_ne fun z' => by have y := m2 _ hp; rw [← z', e'] at y; exact nomatch y]
            exact m3' b o e'
        · rw [refK_none c] at hv
          exact nomatch hv
      · have c : clsOf cs x ∉ es.map (·.1) := fun c => by
          obtain ⟨p, hp, e⟩ := List.mem_map.mp c
          obtain ⟨c1, a1⟩ := p
          obtain rfl : c1 = clsOf cs x := e
          rw [refK_some m1.keys hp] at hv
          exact nomatch hv
        rw [putK_new _ hv]
        have ez' : upd H6 d (.dK (refK es ++ [((Sum.inl ((clsOf cs x : Nat) : Int) : Key), V.ref z)])) z = some (.lst []) := by rw [upd_ne hzd]; exact ez
        refine ⟨.inl ⟨rfl, _, SqL.of ez'⟩, _, rfl, z, _, _, rfl, rfl, ez', by decide, _, es ++ [(clsOf cs x, z)], rfl, m1'.new c hzd hzp, fun p hp => ?_, fun b o e' => ?_⟩
        · rcases List.mem_append.mp hp with hp | hp
          · exact m2 p hp
          · rw [List.mem_singleton.mp hp]; exact hzH
        · rw [upd_ne (ne_of_none e' hzH), upd_ne (ne_of_none e' hd)]
          exact m3' b o e'
    · rintro σ H4 ⟨u5, es, rfl, m1, m2, m3⟩
      rw [List.length_map, List.take_length] at m1
      exact ⟨_, _, es, rfl, m1, m2, m3⟩
  · rintro σ H2 ⟨v4, v5, es, rfl, k1, k2, k3⟩
    rw [List.length_map, List.take_length] at k1
    exact ⟨_, rfl, q d es H2 k3 hd k2 k1⟩
end
end Vf

set_option Elab.async false
set_option linter.all false
set_option maxRecDepth 100000
set_option maxHeartbeats 4000000
namespace Hop
/-! ### splitting classes until no letter parts them -/
variable {n k : Nat} {d : Nat → Nat → Nat} {E : Nat → Prop} {cls : Nat → Nat}
/-- what holds of the classes all the time -/
structure Ref (n k : Nat) (d : Nat → Nat → Nat) (E : Nat → Prop) (cls : Nat → Nat) : Prop where
  fl : ∀ p q, p < n → q < n → cls p = cls q → (E p ↔ E q)
  mx : ∀ R : Nat → Nat → Prop, (∀ p q, R p q → (E p ↔ E q)) → (∀ p q, R p q → ∀ a, a < k → R (d a p) (d a q)) → ∀ p q, p < n → q < n → R p q → cls p = cls q
/-- states of one class whose targets differ: one of both targets' classes waits, or the letter does -/
def Jn (n k : Nat) (d : Nat → Nat → Nat) (cls : Nat → Nat) (W S A : Nat → Prop) : Prop :=
  ∀ p q a, p < n → q < n → a < k → cls p = cls q → cls (d a p) ≠ cls (d a q) → W (cls (d a p)) ∨ W (cls (d a q)) ∨ (A a ∧ ¬ (S (d a p) ↔ S (d a q)))
def split (cls : Nat → Nat) (part : List Nat) (N : Nat) : Nat → Nat := fun x => if x ∈ part then N else cls x
theorem split_eq {part : List Nat} {N old p q : Nat} (hp : p < n) (hq : q < n) (hN : ∀ x, x < n → cls x ≠ N) (hpart : ∀ x ∈ part, cls x = old) (e : split cls part N p = split cls part N q) : cls p = cls q ∧ (p ∈ part ↔ q ∈ part) := by
  unfold split at e
  by_cases c1 : p ∈ part <;> by_cases c2 : q ∈ part
  · exact ⟨(hpart p c1).trans (hpart q c2).symm, iff_of_true c1 c2⟩
  · rw [if_pos c1, if_neg c2] at e
    exact absurd e.symm (hN q hq)
  · rw [if_neg c1, if_pos c2] at e
    exact absurd e (hN p hp)
  · rw [if_neg c1, if_neg c2] at e
    exact ⟨e, iff_of_false c1 c2⟩
theorem Jn.split {part : List Nat} {N old : Nat} {W W' S A : Nat → Prop} (J : Jn n k d cls W S A) (hd : ∀ a x, a < k → x < n → d a x < n) (hN : ∀ x, x < n → cls x ≠ N) (hpart : ∀ x ∈ part, cls x = old) (hW : ∀ c, W c → W' c) (hWN : W' N) :
    Jn n k d (split cls part N) W' S A := by
  intro p q a hp hq ha e ne
  obtain ⟨e1, _⟩ := split_eq hp hq hN hpart e
  have at' : ∀ x, W (cls x) → W' (Hop.split cls part N x) := fun x hx => by
    unfold Hop.split
    by_cases c : x ∈ part
    · rw [if_pos c]; exact hWN
    · rw [if_neg c]; exact hW _ hx
  by_cases c : cls (d a p) = cls (d a q)
  · by_cases c1 : d a p ∈ part
    · refine .inl ?_
      unfold Hop.split
      rw [if_pos c1]
      exact hWN
    · by_cases c2 : d a q ∈ part
      · refine .inr (.inl ?_)
        unfold Hop.split
        rw [if_pos c2]
        exact hWN
      · refine absurd ?_ ne
        unfold Hop.split
        rw [if_neg c1, if_neg c2]
        exact c
  · rcases J p q a hp hq ha e1 c with h | h | h
    · exact .inl (at' _ h)
    · exact .inr (.inl (at' _ h))
    · exact .inr (.inr h)
theorem Jn.pop {W W' : Nat → Prop} {C : Nat} {S : Nat → Prop} (J : Jn n k d cls W (fun _ => False) (fun _ => False)) (hd : ∀ a x, a < k → x < n → d a x < n) (hW : ∀ c, W c → c = C ∨ W' c) (hS : ∀ x, x < n → (S x ↔ cls x = C)) : Jn n k d cls W' S (fun a => a < k) := by
  intro p q a hp hq ha e ne
  have h1 := hd a p ha hp
  have h2 := hd a q ha hq
  rcases J p q a hp hq ha e ne with h | h | h
  · rcases hW _ h with h | h
    · refine .inr (.inr ⟨ha, fun z => ?_⟩)
      have y := (hS _ h2).mp (z.mp ((hS _ h1).mpr h))
      exact ne (h.trans y.symm)
    · exact .inl h
  · rcases hW _ h with h | h
    · refine .inr (.inr ⟨ha, fun z => ?_⟩)
      have y := (hS _ h1).mp (z.mpr ((hS _ h2).mpr h))
      exact ne (y.trans h.symm)
    · exact .inr (.inl h)
  · exact h.1.elim
theorem Jn.drop {W S A A' : Nat → Prop} {a0 : Nat} (J : Jn n k d cls W S A) (hA : ∀ a, A a → a ≠ a0 → A' a) (hR : ∀ p q, p < n → q < n → cls p = cls q → (S (d a0 p) ↔ S (d a0 q))) : Jn n k d cls W S A' := by
  intro p q a hp hq ha e ne
  rcases J p q a hp hq ha e ne with h | h | h
  · exact .inl h
  · exact .inr (.inl h)
  · by_cases c : a = a0
    · subst c
      exact absurd (hR p q hp hq e) h.2
    · exact .inr (.inr ⟨hA a h.1 c, h.2⟩)
theorem Ref.split {part : List Nat} {N old : Nat} (F : Ref n k d E cls) (hN : ∀ x, x < n → cls x ≠ N) (hpart : ∀ x ∈ part, cls x = old)
    (hR : ∀ R : Nat → Nat → Prop, (∀ p q, R p q → (E p ↔ E q)) → (∀ p q, R p q → ∀ a, a < k → R (d a p) (d a q)) → ∀ p q, p < n → q < n → R p q → (p ∈ part ↔ q ∈ part)) : Ref n k d E (split cls part N) := by
  refine ⟨fun p q hp hq e => F.fl p q hp hq (split_eq hp hq hN hpart e).1, fun R r1 r2 p q hp hq h => ?_⟩
  have e := F.mx R r1 r2 p q hp hq h
  have i := hR R r1 r2 p q hp hq h
  unfold Hop.split
  by_cases c : p ∈ part
  · rw [if_pos c, if_pos (i.mp c)]
  · rw [if_neg c, if_neg fun z => c (i.mpr z)]
    exact e
/-- one letter's way through the classes that were hit -/
structure Mid (n : Nat) (cls0 cls : Nat → Nat) (done : List Nat) (hit : Nat → Prop) : Prop where
  ref : ∀ p q, p < n → q < n → cls p = cls q → cls0 p = cls0 q
  dn : ∀ p q, p < n → q < n → cls p = cls q → cls0 p ∈ done → (hit p ↔ hit q)
  un : ∀ x, x < n → cls0 x ∉ done → cls x = cls0 x
theorem Mid.start (cls : Nat → Nat) (hit : Nat → Prop) : Mid n cls cls [] hit := ⟨fun _ _ _ _ e => e, (fun _ _ _ _ _ h => nomatch h), fun _ _ _ => rfl⟩
theorem Mid.all {cls0 : Nat → Nat} {done : List Nat} {hit : Nat → Prop} {old : Nat} (M : Mid n cls0 cls done hit) (h : ∀ x, x < n → cls0 x = old → hit x) : Mid n cls0 cls (done ++ [old]) hit := by
  refine ⟨M.ref, fun p q hp hq e hm => ?_, fun x hx hm => M.un x hx fun z => hm (List.mem_append_left _ z)⟩
  rcases List.mem_append.mp hm with hm | hm
  · exact M.dn p q hp hq e hm
  · have e1 : cls0 p = old := List.mem_singleton.mp hm
    exact iff_of_true (h p hp e1) (h q hq ((M.ref p q hp hq e).symm.trans e1))
theorem Mid.split {cls0 : Nat → Nat} {done : List Nat} {hit : Nat → Prop} {old N : Nat} {part : List Nat} (M : Mid n cls0 cls done hit) (hN : ∀ x, x < n → cls x ≠ N) (ho : old ∉ done) (hlt : ∀ x ∈ part, x < n) (hpart : ∀ x ∈ part, cls0 x = old) (hc : ∀ x ∈ part, cls x = old)
    (hh : (∀ x, x < n → cls0 x = old → (x ∈ part ↔ hit x)) ∨ (∀ x, x < n → cls0 x = old → (x ∈ part ↔ ¬ hit x))) : Mid n cls0 (split cls part N) (done ++ [old]) hit := by
  refine ⟨fun p q hp hq e => M.ref p q hp hq (split_eq hp hq hN hc e).1, fun p q hp hq e hm => ?_, fun x hx hm => ?_⟩
  · obtain ⟨e1, e2⟩ := split_eq hp hq hN hc e
    rcases List.mem_append.mp hm with hm | hm
    · exact M.dn p q hp hq e1 hm
    · have c1 : cls0 p = old := List.mem_singleton.mp hm
      have c2 : cls0 q = old := (M.ref p q hp hq e1).symm.trans c1
      rcases hh with hh | hh
      · exact ((hh p hp c1).symm.trans e2).trans (hh q hq c2)
      · have z := ((hh p hp c1).symm.trans e2).trans (hh q hq c2)
        exact ⟨fun h => Classical.byContradiction fun c => z.mpr c h, fun h => Classical.byContradiction fun c => z.mp c h⟩
  · have c1 : cls0 x ∉ done := fun z => hm (List.mem_append_left _ z)
    have c2 : x ∉ part := fun z => hm (List.mem_append_right _ (List.mem_singleton.mpr (hpart x z)))
    unfold Hop.split
    rw [if_neg c2]
    exact M.un x hx c1
/-- how many pairs of states are of one class -/
def pairs (n : Nat) (cls : Nat → Nat) : Nat := ((List.range n).map fun p => ((List.range n).filter fun q => cls p == cls q).length).sum
theorem filt_le {f g : Nat → Bool} : ∀ l : List Nat, (∀ x ∈ l, f x = true → g x = true) → (l.filter f).length ≤ (l.filter g).length
  | [], _ => Nat.le_refl _
  | x :: l, h => by
    have ih := filt_le l fun y hy => h y (List.mem_cons_of_mem _ hy)
    rw [List.filter_cons, List.filter_cons]
    by_cases c : f x = true
    · rw [if_pos c, if_pos (h x (List.mem_cons_self ..) c), List.length_cons, List.length_cons]
      omega
    · rw [if_neg c]
      by_cases c2 : g x = true
      · rw [if_pos c2, List.length_cons]; omega
      · rw [if_neg c2]; exact ih
theorem filt_lt {f g : Nat → Bool} : ∀ l : List Nat, (∀ x ∈ l, f x = true → g x = true) → (∃ x ∈ l, g x = true ∧ f x = false) → (l.filter f).length < (l.filter g).length
  | [], _, ⟨x, h, _⟩ => nomatch h
  | x :: l, h, ⟨y, hy, g1, f1⟩ => by
    have le := filt_le l fun y hy => h y (List.mem_cons_of_mem _ hy)
    rw [List.filter_cons, List.filter_cons]
    rcases List.mem_cons.mp hy with e | hy
    · subst e
      rw [if_neg (by rw [f1]; exact Bool.false_ne_true), if_pos g1, List.length_cons]
      omega
    · have ih := filt_lt l (fun y hy => h y (List.mem_cons_of_mem _ hy)) ⟨y, hy, g1, f1⟩
      by_cases c : f x = true
      · rw [if_pos c, if_pos (h x (List.mem_cons_self ..) c), List.length_cons, List.length_cons]
        omega
      · rw [if_neg c]
        by_cases c2 : g x = true
        · rw [if_pos c2, List.length_cons]; omega
        · rw [if_neg c2]; exact ih
theorem sum_le {f g : Nat → Nat} : ∀ l : List Nat, (∀ x ∈ l, f x ≤ g x) → (l.map f).sum ≤ (l.map g).sum
  | [], _ => Nat.le_refl _
  | x :: l, h => by
    have ih := sum_le l fun y hy => h y (List.mem_cons_of_mem _ hy)
    have hx := h x (List.mem_cons_self ..)
    simp only [List.map_cons, List.sum_cons]
    omega
theorem sum_lt {f g : Nat → Nat} : ∀ l : List Nat, (∀ x ∈ l, f x ≤ g x) → (∃ x ∈ l, f x < g x) → (l.map f).sum < (l.map g).sum
  | [], _, ⟨x, h, _⟩ => nomatch h
  | x :: l, h, ⟨y, hy, lt⟩ => by
    have le := sum_le l fun y hy => h y (List.mem_cons_of_mem _ hy)
    have hx := h x (List.mem_cons_self ..)
    simp only [List.map_cons, List.sum_cons]
    rcases List.mem_cons.mp hy with e | hy
    · subst e; omega
    · have ih := sum_lt l (fun y hy => h y (List.mem_cons_of_mem _ hy)) ⟨y, hy, lt⟩
      omega
theorem pairs_le (n : Nat) (cls : Nat → Nat) : pairs n cls ≤ n * n := by
  have q : ∀ l : List Nat, (l.map fun p => ((List.range n).filter fun q => cls p == cls q).length).sum ≤ l.length * n := by
    intro l
    induction l with
    | nil => simp
    | cons x l ih =>
      simp only [List.map_cons, List.sum_cons, List.length_cons, Nat.add_mul, Nat.one_mul]
      have z := List.length_filter_le (fun q => cls x == cls q) (List.range n)
      rw [List.length_range] at z
      omega
  have z := q (List.range n)
  rw [List.length_range] at z
  exact z
theorem pairs_split {part : List Nat} {N old p0 q0 : Nat} (hN : ∀ x, x < n → cls x ≠ N) (hpart : ∀ x ∈ part, cls x = old) (hp : p0 < n) (hq : q0 < n) (c1 : p0 ∈ part) (c2 : q0 ∉ part) (e : cls p0 = cls q0) : pairs n (split cls part N) < pairs n cls := by
  unfold pairs
  have le : ∀ p, p < n → ∀ q ∈ List.range n, (split cls part N p == split cls part N q) = true → (cls p == cls q) = true := fun p hp q hq z => by
    exact beq_iff_eq.mpr (split_eq hp (List.mem_range.mp hq) hN hpart (beq_iff_eq.mp z)).1
  refine sum_lt _ (fun p hp => filt_le _ (le p (List.mem_range.mp hp))) ⟨p0, List.mem_range.mpr hp, filt_lt _ (le p0 hp) ⟨q0, List.mem_range.mpr hq, beq_iff_eq.mpr e, ?_⟩⟩
  rw [beq_eq_false_iff_ne]
  intro z
  exact c2 ((split_eq hp hq hN hpart z).2.mp c1)
/-! the classes told by another function that agrees on the states -/
theorem Ref.congr {f g : Nat → Nat} (e : ∀ x, x < n → g x = f x) (F : Ref n k d E f) : Ref n k d E g :=
  ⟨fun p q hp hq h => F.fl p q hp hq (by rw [← e p hp, ← e q hq]; exact h), fun R r1 r2 p q hp hq h => by rw [e p hp, e q hq]; exact F.mx R r1 r2 p q hp hq h⟩
theorem Jn.congr {f g : Nat → Nat} {W S A : Nat → Prop} (hd : ∀ a x, a < k → x < n → d a x < n) (e : ∀ x, x < n → g x = f x) (J : Jn n k d f W S A) : Jn n k d g W S A := fun p q a hp hq ha h ne => by
  rw [e _ (hd a p ha hp), e _ (hd a q ha hq)] at ne ⊢
  exact J p q a hp hq ha (by rw [← e p hp, ← e q hq]; exact h) ne
theorem Mid.congr {f f0 g : Nat → Nat} {done : List Nat} {hit : Nat → Prop} (e : ∀ x, x < n → g x = f x) (M : Mid n f0 f done hit) : Mid n f0 g done hit :=
  ⟨fun p q hp hq h => M.ref p q hp hq (by rw [← e p hp, ← e q hq]; exact h), fun p q hp hq h => M.dn p q hp hq (by rw [← e p hp, ← e q hq]; exact h), fun x hx h => (e x hx).trans (M.un x hx h)⟩
theorem pairs_congr {f g : Nat → Nat} (e : ∀ x, x < n → g x = f x) : pairs n g = pairs n f := by
  unfold pairs
  congr 1
  refine List.map_congr_left fun p hp => ?_
  congr 1
  refine List.filter_congr fun q hq => ?_
  rw [e p (List.mem_range.mp hp), e q (List.mem_range.mp hq)]
end Hop

set_option Elab.async false
set_option linter.all false
set_option maxRecDepth 100000
set_option maxHeartbeats 4000000
namespace Vf
open PySem PySem.Spec PyProof.Rows L2 L2.Vx Vs
/-! ### smaller_part -/
abbrev sPart : Stmt := top 22
def spPart : Sp := fun vs H Q _ => ∃ (la lb : Addr) (xs ys : List Nat), vs = [.ref la, .ref lb] ∧ H la = some (.lst (xs.map nI)) ∧ H lb = some (.lst (ys.map nI)) ∧ ys.Nodup ∧ xs.length ≤ 1000 ∧ ys.length ≤ 1000 ∧
  ∀ l part H', Same H H' → (l = lb ∨ H l = none) → H' l = some (.lst (part.map nI)) → (part = ys ∨ part = xs.filter fun x => !decide (x ∈ ys)) → Q (.ref l) H'
section
variable {P : Program} {w : World} {K : PySem.W.Frag} {mg : Str → Option Value} {base : Heap}
abbrev nPart : List Str := ["states", "some", "left_out", "state"]
theorem scPart : FnScope nPart ["states", "some"] (defScope sPart) := ⟨rfl, rfl, rfl, by decide +kernel, rfl, by decide +kernel, by decide +kernel⟩
theorem seen_none {o : List Nat} {t : Nat} (c : t ∉ o) : valV (seenK o) (Sum.inl (t : Int)) = none := by
  cases e : valV (seenK o) (Sum.inl (t : Int)) with
  | none => rfl
  | some y =>
    have z := seen_val o t
    rw [e, decide_eq_false c] at z
    exact nomatch z
theorem ok_part {f : Addr} {fd : FuncData} (F : Fun K "smaller_part" "smaller_part" sPart f fd) (T : TxtM mg) : FnOk P w K mg base CX0 1 f fd ["states", "some"] spPart := by
  refine F.ok scPart (fun vs H Q E h => ?_) (fun cdv A outer s H vs Q E hr h => ?_)
  · obtain ⟨la, lb, xs, ys, rfl, _⟩ := h
    rfl
  obtain ⟨la, lb, xs, ys, rfl, ha, hb, nd, hx, hy, q⟩ := h
  have hu := hu_of hr
  refine ⟨_, pss_cons (ps_if (pt_cmpR op_le (pe_op op_mul pe_int (pe_callB call_len_seq (by rfl) T.len PySem.boot_len (pa_cons (pv 1) pa_nil))) (pe_callB call_len_seq (by rfl) T.len PySem.boot_len (pa_cons (pv 0) pa_nil)) (nomark _)) (pss_one (ps_ret (pv 1))) pss_nil)
    (pss_cons (ps_set (i := 2) scPart.nd rfl (Or.inr rfl) (pe_dc (own := [("state", 3)]) (g := gName 3) (tt := tYes) rfl scPart.nd (pi_list (pv 1)) (blkOk_by (N := nPart) (sc := defScope sPart) (by decide +kernel))
        (fun _ _ _ _ _ => pg_name (i := 3) scPart.nd rfl (Or.inl rfl)) (fun _ _ _ _ _ => pts_nil) (fun _ _ _ _ _ => by exact pv 3) (fun _ _ _ _ _ => by exact pe_bl)))
    (pss_one (ps_ret (pe_lc (own := [("state", 3)]) (g := gName 3) rfl scPart.nd (pi_list (pv 0)) (blkOk_by (N := nPart) (sc := defScope sPart) (by decide +kernel)) (fun _ _ _ _ _ => pg_name (i := 3) scPart.nd rfl (Or.inl rfl))
        (fun _ _ _ _ _ => by exact pts_one (pt_cmp (pc_dnotin hu (pv 3) (pv 2)))) (fun _ _ _ _ _ => by exact pv 3))))), ?_⟩
  refine ⟨_, rfl, lb, _, rfl, .inl (SqL.of hb), _, _, rfl, rfl, .inl ⟨by decide, by decide⟩, _, rfl, la, _, rfl, .inl (SqL.of ha), _, _, rfl, rfl, _, rfl, ?_⟩
  refine ite2 (fun _ => ⟨_, rfl, q lb ys H (Same.refl H) (.inl rfl) hb (.inl rfl)⟩) (fun _ => ?_)
  refine ⟨_, rfl, lb, rfl, ⟨_, SqL.of hb⟩, fun D hD => ?_⟩
  refine dc_it (walk_list (xs := ys.map nI)) (fun i H' => H' D = some (.dK (seenK (ys.take i))) ∧ Same H H') ⟨upd_same, same_new hD _⟩ (fun i H' _ ⟨_, s⟩ => s.seq (SqL.of hb)) ?_ ?_
  · rintro i x H1 H2 hi ⟨k1, k2⟩ ⟨rfl, hx'⟩
    rw [List.getElem?_map] at hx'
    obtain ⟨t, ht, rfl⟩ := Option.map_eq_some_iff.mp hx'
    have hn : t ∉ ys.take i := fun z => by
      obtain ⟨j, hj, e⟩ := List.getElem_of_mem z
      rw [List.length_take] at hj
      rw [List.getElem_take] at e
      obtain ⟨hi', e2⟩ := List.getElem?_eq_some_iff.mp ht
      exact List.pairwise_iff_getElem.mp nd j i (by omega) hi' (by omega) (e.trans e2.symm)
    refine ⟨rfl, _, rfl, _, Sum.inl (t : Int), rfl, k1, ?_, ?_, fun b o e => ?_⟩
    · unfold seenK
      rw [List.length_map]
      exact Nat.lt_of_le_of_lt (Nat.le_trans (List.length_take_le' _ _) hy) (by decide)
    · rw [upd_same, putK_new _ (seen_none hn), List.take_add_one, ht]
      unfold seenK
      rw [List.map_append]
      rfl
    · rw [upd_ne (ne_of_none e hD)]
      exact k2 b o e
  · rintro H1 ⟨k1, k2⟩
    rw [List.length_map, List.take_length] at k1
    refine ⟨_, rfl, la, rfl, ⟨_, SqL.of (k2 _ _ ha)⟩, fun D2 hD2 => ?_⟩
    refine lc_it (walk_list (xs := xs.map nI)) (fun i H' => H' D2 = some (.lst (((xs.take i).filter fun x => !decide (x ∈ ys)).map nI)) ∧ Same H1 H') ⟨upd_same, same_new hD2 _⟩ (fun i H' _ ⟨_, s⟩ => s.seq (SqL.of (k2 _ _ ha))) ?_ ?_
    · rintro i x H2 H3 hi ⟨m1, m2⟩ ⟨rfl, hx'⟩
      rw [List.getElem?_map] at hx'
      obtain ⟨t, ht, rfl⟩ := Option.map_eq_some_iff.mp hx'
      refine ⟨rfl, _, rfl, _, rfl, D, _, rfl, DGet.k (k := Sum.inl (t : Int)) (m2 _ _ k1), _, rfl, ?_⟩
      rw [seen_val]
      by_cases c : t ∈ ys
      · rw [decide_eq_true c]
        refine ⟨?_, m2⟩
        rw [m1, List.take_add_one, ht, List.filter_append]
        simp [c]
      · rw [decide_eq_false c]
        refine ⟨_, rfl, _, m1, ?_, ?_, fun b o e => ?_⟩
        · rw [List.length_map]
          exact Nat.lt_of_le_of_lt (Nat.le_trans (List.length_filter_le _ _) (Nat.le_trans (List.length_take_le' _ _) hx)) (by decide)
        · rw [upd_same, List.take_add_one, ht, List.filter_append, List.map_append]
          simp [c]
        · rw [upd_ne (ne_of_none e hD2)]
          exact m2 b o e
    · rintro H2 ⟨m1, m2⟩
      rw [List.length_map, List.take_length] at m1
      exact q D2 _ H2 (k2.trans m2) (.inr (k2.free hD2)) m1 (.inr rfl)
end
end Vf

set_option Elab.async false
set_option linter.all false
set_option maxRecDepth 100000
set_option maxHeartbeats 4000000
namespace Vf
open PySem PySem.Spec PyProof.Rows L2 L2.Vx Vs
/-! ### classes_of -/
abbrev sCls : Stmt := top 23
/-- rows all of one width -/
structure Square (rows : List (List Nat)) (k : Nat) : Prop where
  some : 0 < rows.length
  few : rows.length ≤ 1000
  wide : ∀ r ∈ rows, r.length = k
  thin : k ≤ 100
  inn : RowsIn rows rows.length
def spCls (K : PySem.W.Frag) : Sp := fun vs H Q _ => ∃ (v e : V) (rows : List (List Nat)) (ends : List Nat) (k : Nat), vs = [v, e] ∧ RowsAt K H v rows ∧ TupN K H e ends ∧ Square rows k ∧ (∀ x ∈ ends, x < rows.length) ∧ ends.Nodup ∧
  ∀ l cs H', Same H H' → H l = none → H' l = some (.lst (cs.map nI)) → cs.length = rows.length → Hop.Ref rows.length k (nextOf rows) (fun x => x ∈ ends) (clsOf cs) →
    (∀ p q a, p < rows.length → q < rows.length → a < k → clsOf cs p = clsOf cs q → clsOf cs (nextOf rows a p) = clsOf cs (nextOf rows a q)) → Q (.ref l) H'
/-- what the loops keep; Hs: the heap when the sources stood -/
structure CI (Hs H : Hp) (lc lw dm : Addr) (n : Nat) (cs : List Nat) (es : List (Nat × Addr)) (kk : Nat) : Prop where
  same : Same Hs H
  cl : H lc = some (.lst (cs.map nI))
  cn : cs.length = n
  dt : H dm = some (.dK (refK es))
  ek : es.map (·.1) = List.range kk
  mem : ∀ p ∈ es, p.2 ≠ lc ∧ p.2 ≠ lw ∧ ∃ ms : List Nat, H p.2 = some (.lst (ms.map nI)) ∧ ms.Nodup ∧ ∀ x, x ∈ ms ↔ x < n ∧ clsOf cs x = p.1
  lt : ∀ x, x < n → clsOf cs x < kk
theorem CI.up {Hs H H' : Hp} {lc lw dm : Addr} {n : Nat} {cs : List Nat} {es : List (Nat × Addr)} {kk : Nat} (h : CI Hs H lc lw dm n cs es kk) (s : Same H H') : CI Hs H' lc lw dm n cs es kk :=
  ⟨h.same.trans s, s _ _ h.cl, h.cn, s _ _ h.dt, h.ek, fun p hp => ⟨(h.mem p hp).1, (h.mem p hp).2.1, (h.mem p hp).2.2.imp fun ms z => ⟨s _ _ z.1, z.2⟩⟩, h.lt⟩
theorem CI.upd {Hs H : Hp} {lc lw dm x : Addr} {n : Nat} {cs : List Nat} {es : List (Nat × Addr)} {kk : Nat} (h : CI Hs H lc lw dm n cs es kk) (o : HO) (hx : Hs x = none) (h1 : x ≠ lc) (h2 : x ≠ dm) (h3 : ∀ p ∈ es, p.2 ≠ x) : CI Hs (upd H x o) lc lw dm n cs es kk :=
  ⟨fun b u e => by rw [upd_ne (ne_of_none e hx)]; exact h.same b u e, by rw [upd_ne h1.symm]; exact h.cl, h.cn, by rw [upd_ne h2.symm]; exact h.dt, h.ek,
    fun p hp => ⟨(h.mem p hp).1, (h.mem p hp).2.1, (h.mem p hp).2.2.imp fun ms z => ⟨by rw [upd_ne (h3 p hp)]; exact z.1, z.2⟩⟩, h.lt⟩
theorem CI.at {Hs H : Hp} {lc lw dm : Addr} {n : Nat} {cs : List Nat} {es : List (Nat × Addr)} {kk : Nat} (h : CI Hs H lc lw dm n cs es kk) {c : Nat} (hc : c < kk) :
    ∃ (t : Addr) (ms : List Nat), (c, t) ∈ es ∧ valV (refK es) (Sum.inl (c : Int)) = some (.ref t) ∧ t ≠ lc ∧ t ≠ lw ∧ H t = some (.lst (ms.map nI)) ∧ ms.Nodup ∧ ∀ x, x ∈ ms ↔ x < n ∧ clsOf cs x = c := by
  have hm : c ∈ es.map (·.1) := by rw [h.ek]; exact List.mem_range.mpr hc
  obtain ⟨p, hp, e⟩ := List.mem_map.mp hm
  obtain ⟨c1, t⟩ := p
  obtain rfl : c1 = c := e
  obtain ⟨m1, m2, ms, m3, m4, m5⟩ := h.mem _ hp
  exact ⟨t, ms, hp, refK_some (by rw [h.ek]; exact List.nodup_range) hp, m1, m2, m3, m4, m5⟩
structure WI (Hs H : Hp) (lc lw dm : Addr) (n k : Nat) (d : Nat → Nat → Nat) (E : Nat → Prop) (cs : List Nat) (es : List (Nat × Addr)) (kk : Nat) (W : List Nat) (m : Nat) : Prop where
  ci : CI Hs H lc lw dm n cs es kk
  wt : H lw = some (.lst (W.map nI))
  wk : ∀ c ∈ W, c < kk
  rf : Hop.Ref n k d E (clsOf cs)
  ms : 2 * Hop.pairs n (clsOf cs) + W.length ≤ m
  kb : 2 * Hop.pairs n (clsOf cs) + kk ≤ 2 * (n * n) + 2
theorem WI.up {Hs H H' : Hp} {lc lw dm : Addr} {n k : Nat} {d : Nat → Nat → Nat} {E : Nat → Prop} {cs : List Nat} {es : List (Nat × Addr)} {kk : Nat} {W : List Nat} {m : Nat} (h : WI Hs H lc lw dm n k d E cs es kk W m) (s : Same H H') : WI Hs H' lc lw dm n k d E cs es kk W m :=
  ⟨h.ci.up s, s _ _ h.wt, h.wk, h.rf, h.ms, h.kb⟩
theorem WI.upd {Hs H : Hp} {lc lw dm x : Addr} {n k : Nat} {d : Nat → Nat → Nat} {E : Nat → Prop} {cs : List Nat} {es : List (Nat × Addr)} {kk : Nat} {W : List Nat} {m : Nat} (h : WI Hs H lc lw dm n k d E cs es kk W m) (o : HO) (hx : Hs x = none) (h1 : x ≠ lc) (h2 : x ≠ dm) (h3 : ∀ p ∈ es, p.2 ≠ x) (h4 : x ≠ lw) : WI Hs (upd H x o) lc lw dm n k d E cs es kk W m :=
  ⟨h.ci.upd o hx h1 h2 h3, by rw [upd_ne h4.symm]; exact h.wt, h.wk, h.rf, h.ms, h.kb⟩
theorem flat_nodup {f : Nat → List Nat} (hf : ∀ t, (f t).Nodup) (hu : ∀ t u x, x ∈ f t → x ∈ f u → t = u) : ∀ l : List Nat, l.Nodup → (l.flatMap f).Nodup
  | [], _ => List.nodup_nil
  | t :: l, h => by
    obtain ⟨h1, h2⟩ := List.nodup_cons.mp h
    rw [List.flatMap_cons]
    refine List.nodup_append.mpr ⟨hf t, flat_nodup hf hu l h2, fun a ha b hb e => ?_⟩
    subst e
    obtain ⟨u, hul, hau⟩ := List.mem_flatMap.mp hb
    exact h1 (hu t u a ha hau ▸ hul)
theorem mem_src {rows : List (List Nat)} {a t x : Nat} : x ∈ srcOf rows a t ↔ x < rows.length ∧ nextOf rows a x = t := by
  unfold srcOf
  rw [List.mem_filter, List.mem_range, beq_iff_eq]
theorem mem_hit {rows : List (List Nat)} {a x : Nat} {ins : List Nat} : x ∈ ins.flatMap (srcOf rows a) ↔ x < rows.length ∧ nextOf rows a x ∈ ins := by
  rw [List.mem_flatMap]
  constructor
  · rintro ⟨t, ht, hx⟩
    obtain ⟨h1, h2⟩ := mem_src.mp hx
    exact ⟨h1, h2 ▸ ht⟩
  · rintro ⟨h1, h2⟩
    exact ⟨_, h2, mem_src.mpr ⟨h1, rfl⟩⟩
theorem hit_nodup {rows : List (List Nat)} {a : Nat} {ins : List Nat} (h : ins.Nodup) : (ins.flatMap (srcOf rows a)).Nodup :=
  flat_nodup (fun t => List.Pairwise.filter _ List.nodup_range) (fun t u x h1 h2 => (mem_src.mp h1).2.symm.trans (mem_src.mp h2).2) ins h
/-- the classes behind a split, as a list -/
def setAll (n : Nat) (cs part : List Nat) (N : Nat) : List Nat := (List.range n).map fun x => Hop.split (clsOf cs) part N x
theorem setAll_nil {n : Nat} {cs : List Nat} {N : Nat} (h : cs.length = n) : setAll n cs [] N = cs := by
  unfold setAll
  apply List.ext_getElem?
  intro i
  rw [List.getElem?_map]
  by_cases hi : i < n
  · rw [List.getElem?_range hi, getD_at (by omega)]
    rfl
  · rw [List.getElem?_eq_none (by simp; omega), List.getElem?_eq_none (by omega)]
    rfl
theorem setAll_set {n : Nat} {cs part : List Nat} {N x : Nat} (hx : x < n) : (setAll n cs part N).set x N = setAll n cs (part ++ [x]) N := by
  unfold setAll
  apply List.ext_getElem?
  intro i
  by_cases e : x = i
  · subst e
    rw [List.getElem?_set_self (by simp; exact hx), List.getElem?_map, List.getElem?_range hx]
    show some N = some (Hop.split _ _ _ _)
    unfold Hop.split
    rw [if_pos (List.mem_append_right _ (List.mem_singleton.mpr rfl))]
  · rw [List.getElem?_set_ne e, List.getElem?_map, List.getElem?_map]
    by_cases hi : i < n
    · rw [List.getElem?_range hi]
      show some (Hop.split _ _ _ _) = some (Hop.split _ _ _ _)
      unfold Hop.split
      have : i ∈ part ++ [x] ↔ i ∈ part := by simp [Ne.symm e]
      simp only [this]
    · rw [List.getElem?_eq_none (by simp; omega)]
      rfl
theorem setAll_cls {n : Nat} {cs part : List Nat} {N x : Nat} (hx : x < n) : clsOf (setAll n cs part N) x = Hop.split (clsOf cs) part N x := by
  unfold clsOf setAll
  rw [List.getD_eq_getElem?_getD, List.getElem?_map, List.getElem?_range hx]
  rfl
theorem sub_all : ∀ (l m : List Nat), l.Nodup → (∀ x ∈ l, x ∈ m) → m.length ≤ l.length → ∀ y ∈ m, y ∈ l
  | [], m, _, _, h, y, hy => by rw [List.length_eq_zero_iff.mp (Nat.le_zero.mp h)] at hy; exact nomatch hy
  | x :: l, m, d, s, h, y, hy => by
    obtain ⟨d1, d2⟩ := List.nodup_cons.mp d
    have p := List.perm_cons_erase (s x (List.mem_cons_self ..))
    have hl := p.length_eq
    simp only [List.length_cons] at hl h
    rcases List.mem_cons.mp (p.mem_iff.mp hy) with e | e
    · rw [e]; exact List.mem_cons_self ..
    · exact List.mem_cons_of_mem _ (sub_all l (m.erase x) d2 (fun k hk => (List.mem_erase_of_ne fun z : k = x => d1 (by rw [← z]; exact hk)).mpr (s k (List.mem_cons_of_mem _ hk))) (by omega) y e)
theorem nodup_sub : ∀ (l m : List Nat), l.Nodup → (∀ x ∈ l, x ∈ m) → l.length ≤ m.length
  | [], m, _, _ => Nat.zero_le _
  | x :: l, m, d, s => by
    obtain ⟨d1, d2⟩ := List.nodup_cons.mp d
    have p := (List.perm_cons_erase (s x (List.mem_cons_self ..))).length_eq
    have q := nodup_sub l (m.erase x) d2 fun k hk => (List.mem_erase_of_ne fun z : k = x => d1 (by rw [← z]; exact hk)).mpr (s k (List.mem_cons_of_mem _ hk))
    simp only [List.length_cons] at p ⊢
    omega
theorem refK_put {es : List (Nat × Addr)} {c : Nat} {t : Addr} (h : c ∈ es.map (·.1)) : putK (refK es) (Sum.inl (c : Int)) (.ref t) = refK (es.map fun e => if e.1 = c then (c, t) else e) := by
  unfold putK
  have a : ((refK es).any fun kv => decide (kv.1 = Sum.inl (c : Int))) = true := by
    obtain ⟨p, hp, e⟩ := List.mem_map.mp h
    refine List.any_eq_true.mpr ⟨_, List.mem_map.mpr ⟨p, hp, rfl⟩, decide_eq_true ?_⟩
    rw [e]
  rw [if_pos a]
  unfold refK
  rw [List.map_map, List.map_map]
  refine List.map_congr_left fun e _ => ?_
  show (if (Sum.inl ((e.1 : Nat) : Int) : Key) = Sum.inl (c : Int) then _ else _) = _
  by_cases z : e.1 = c
  · rw [if_pos (by rw [z])]
    show _ = ((Sum.inl (((if e.1 = c then (c, t) else e).1 : Nat) : Int) : Key), V.ref (if e.1 = c then (c, t) else e).2)
    rw [if_pos z]
    show ((Sum.inl ((e.1 : Nat) : Int) : Key), V.ref t) = ((Sum.inl ((c : Nat) : Int) : Key), V.ref t)
    rw [z]
  · rw [if_neg fun y => z (by have q := Sum.inl.inj y; omega)]
    show _ = ((Sum.inl (((if e.1 = c then (c, t) else e).1 : Nat) : Int) : Key), V.ref (if e.1 = c then (c, t) else e).2)
    rw [if_neg z]
theorem keys_put {es : List (Nat × Addr)} {c : Nat} {t : Addr} : (es.map fun e => if e.1 = c then (c, t) else e).map (·.1) = es.map (·.1) := by
  rw [List.map_map]
  refine List.map_congr_left fun e _ => ?_
  show (if e.1 = c then (c, t) else e).1 = e.1
  split
  · rename_i h; exact h.symm
  · rfl
section
variable {P : Program} {w : World} {K : PySem.W.Frag} {mg : Str → Option Value} {base : Heap}
abbrev nCls : List Str := ["rows", "ends", "sources", "classes", "state", "members", "waiting", "inside", "known", "hits", "old", "hit", "new", "part", "at", "flag", "found"]
theorem scCls : FnScope nCls ["rows", "ends"] (defScope sCls) := ⟨rfl, rfl, rfl, by decide +kernel, rfl, by decide +kernel, by decide +kernel⟩
theorem ok_cls {f fF fS fH fP : Addr} {fd fdF fdS fdH fdP : FuncData} (F : Fun K "classes_of" "classes_of" sCls f fd) (T : TxtM mg)
    (GF : FnOk P w K mg base CX0 1 fF fdF ["many", "ends"] (spFlags K)) (bF : Binds K fdF ["many", "ends"] []) (kF : PySem.W.keepIn K (.ref fF) = true) (mF : mg "end_flags" = some (.ref fF))
    (GS : FnOk P w K mg base CX0 1 fS fdS ["rows", "at"] (spSrc K)) (bS : Binds K fdS ["rows", "at"] []) (kS : PySem.W.keepIn K (.ref fS) = true) (mS : mg "sources_of" = some (.ref fS))
    (GH : FnOk P w K mg base CX0 1 fH fdH ["sources", "inside", "classes"] spHits) (bH : Binds K fdH ["sources", "inside", "classes"] []) (kH : PySem.W.keepIn K (.ref fH) = true) (mH : mg "hits_of" = some (.ref fH))
    (GP : FnOk P w K mg base CX0 1 fP fdP ["states", "some"] spPart) (bP : Binds K fdP ["states", "some"] []) (kP : PySem.W.keepIn K (.ref fP) = true) (mP : mg "smaller_part" = some (.ref fP)) :
    FnOk P w K mg base CX0 2 f fd ["rows", "ends"] (spCls K) := by
  refine F.ok scCls (fun vs H Q E h => ?_) (fun cdv A outer s H vs Q E hr h => ?_)
  · obtain ⟨v, e, rows, ends, k, rfl, _⟩ := h
    rfl
  obtain ⟨v, e, rows, ends, k, rfl, hR, hE, sq, hel, hend, q⟩ := h
  have hu := hu_of hr
  refine ⟨_, pss_cons (ps_setLc (i := 2) (own := [("at", 14)]) (g := gName 14) (tt := tYes) rfl scCls.nd rfl rfl (sw_true rfl rfl rfl (by decide +kernel)) (pi_range1 rfl T.range (pa_cons (pe_callB call_len_seq (by rfl) T.len PySem.boot_len (pa_cons (pe_ix ix_tup (pv 0) pe_int (fun _ _ => rfl)) pa_nil)) pa_nil))
        (blkOk_by (N := nCls) (sc := defScope sCls) (by decide +kernel)) (fun _ _ _ _ _ => pg_name (i := 14) scCls.nd rfl (Or.inl rfl)) (fun _ _ _ _ _ => pts_nil) (fun _ _ _ _ _ => by exact pe_call GS hr rfl mS kS bS .nil pass0 (pa_cons (pv 0) (pa_cons (pv 14) pa_nil))))
    (pss_cons (ps_set (i := 3) scCls.nd rfl (Or.inr rfl) (pe_lc (own := [("flag", 15)]) (g := gName 15) (tt := tYes) rfl scCls.nd (pi_list (pe_call GF hr rfl mF kF bF .nil pass0 (pa_cons (pe_callB call_len_seq (by rfl) T.len PySem.boot_len (pa_cons (pv 0) pa_nil)) (pa_cons (pv 1) pa_nil))))
        (blkOk_by (N := nCls) (sc := defScope sCls) (by decide +kernel)) (fun _ _ _ _ _ => pg_name (i := 15) scCls.nd rfl (Or.inl rfl)) (fun _ _ _ _ _ => pts_nil) (fun _ _ _ _ _ => by exact pe_callTy call_int1 (by rfl) T.int (by decide +kernel) (pa_cons (pv 15) pa_nil))))
    (pss_cons (ps_set (i := 5) scCls.nd rfl (Or.inl rfl) (pe_disp (pps_cons pe_int (pe_lc (own := [("state", 4), ("found", 16)]) (g := gTup K 2 (gCons (gName 4) (gCons (gName 16) gNil))) rfl scCls.nd (pi_enum (by rfl) T.enu (pa_cons (pv 3) pa_nil))
          (blkOk_by (N := nCls) (sc := defScope sCls) (by decide +kernel)) (fun _ _ _ _ _ => by exact (pg_tup rfl (pgs_cons (pg_name (i := 4) scCls.nd rfl (Or.inl rfl)) (pgs_cons (pg_name (i := 16) scCls.nd rfl (Or.inl rfl)) pgs_nil))))
          (fun _ _ _ _ _ => by exact pts_one (pt_cmpR op_eq (pv 16) pe_int (nomark _))) (fun _ _ _ _ _ => by exact pv 4))
        (pps_cons pe_int (pe_callTy call_list_of (by rfl) T.list (by decide +kernel) (pa_cons (pv 1) pa_nil)) pps_nil)) (by rfl) (by rfl) (fun z => by cases z) (by decide)))
    (pss_cons (ps_set (i := 6) scCls.nd rfl (Or.inl rfl) (pe_lst (pa_cons pe_int (pa_cons pe_int pa_nil))))
    (pss_cons (ps_while PassesOwn.never (pt_truth (pv 6) (by intro _; rfl))
      (pss_cons (ps_set (i := 7) scCls.nd rfl (Or.inl rfl) (pe_dget hu (pv 5) (pe_bm0 PySem.F.plainAttrs_list PySem.F.slot_list_pop PySem.F.type_list_pop mt_pop (pv 6)) (fun _ _ => rfl)))
      (pss_one (ps_for PassesOwn.never rfl (pi_list (pv 2)) (pg_name (i := 8) scCls.nd rfl (Or.inl rfl))
        (pss_cons (ps_set (i := 9) scCls.nd rfl (Or.inl rfl) (pe_call GH hr rfl mH kH bH .nil pass0 (pa_cons (pv 8) (pa_cons (pv 7) (pa_cons (pv 3) pa_nil)))))
        (pss_one (ps_lock (ps_for PassesOwn.never rfl (pi_items (pv 9)) (pg_tup rfl (pgs_cons (pg_name (i := 10) scCls.nd rfl (Or.inr rfl)) (pgs_cons (pg_name (i := 11) scCls.nd rfl (Or.inl rfl)) pgs_nil)))
          (pss_one (ps_if (pt_cmpR op_lt (pe_callB call_len_seq (by rfl) T.len PySem.boot_len (pa_cons (pv 11) pa_nil)) (pe_callB call_len_seq (by rfl) T.len PySem.boot_len (pa_cons (pe_dget hu (pv 5) (pv 10) (fun _ _ => rfl)) pa_nil)) (nomark _))
            (pss_cons (ps_set (i := 12) scCls.nd rfl (Or.inl rfl) (pe_callB call_lenD (by rfl) T.len PySem.boot_len (pa_cons (pv 5) pa_nil)))
            (pss_cons (ps_set (i := 13) scCls.nd rfl (Or.inl rfl) (pe_call GP hr rfl mP kP bP .nil pass0 (pa_cons (pe_dget hu (pv 5) (pv 10) (fun _ _ => rfl)) (pa_cons (pv 11) pa_nil))))
            (pss_cons (ps_for PassesOwn.never rfl (pi_list (pv 13)) (pg_name (i := 4) scCls.nd rfl (Or.inl rfl)) (pss_one (ps_asg (pv 12) (pg_sub (pv 3) (pv 4) set_list))))
            (pss_cons (ps_dput hu (pv 5) (pv 12) (pv 13) rfl)
            (pss_cons (ps_dput hu (pv 5) (pv 10) (pe_lc (own := [("state", 4)]) (g := gName 4) rfl scCls.nd (pi_list (pe_dget hu (pv 5) (pv 10) (fun _ _ => rfl))) (blkOk_by (N := nCls) (sc := defScope sCls) (by decide +kernel)) (fun _ _ _ _ _ => pg_name (i := 4) scCls.nd rfl (Or.inl rfl))
                (fun _ _ _ _ _ => by exact pts_one (pt_cmpR op_eq (pe_ix (ixL_at (K := K) rfl) (pv 3) (pv 4) (fun _ _ => rfl)) (pv 10) (nomark _))) (fun _ _ _ _ _ => by exact pv 4)) rfl)
            (pss_one (ps_expr (pe_bm PySem.F.plainAttrs_list PySem.F.slot_list_append PySem.F.type_list_append mt_append (pv 6) (pa_cons (pv 12) pa_nil)))))))))
            pss_nil))))))))))
    (pss_one (ps_ret (pv 3))))))), ?_⟩
  obtain ⟨va, bs, b0, rfl, hva, hb0, hrow0⟩ := hR.row sq.some
  obtain ⟨va', bs', eva, hva', hbl', _⟩ := id hR
  cases eva
  have hk0 : ((rowOf rows 0).map nI).length = k := by
    rw [List.length_map]
    exact sq.wide _ (List.mem_of_getElem? (rowOf_at sq.some))
  have hthin := sq.thin
  have hfew := sq.few
  refine ⟨_, rfl, va, bs, _, .ref b0, rfl, rfl, hva, atI_nat (j := 0) hb0, b0, _, rfl, .inr hrow0, _, rfl, by rw [hk0]; omega, by rw [hk0]; omega, fun S hS => ?_⟩
  rw [hk0]
  rw [show ((k : Int)).toNat = k by omega]
  refine lc_range (lo := 0) (n := k) (fun i H' => ∃ ks : List Addr, H' S = some (.lst (ks.map V.ref)) ∧ ks.length = i ∧ (∀ (a : Nat) (l : Addr), ks[a]? = some l → ∃ ts, l ≠ S ∧ (∀ t ∈ ts, t ≠ S) ∧ LsAt H' l ts rows.length (srcOf rows a)) ∧ Same H H')
    ⟨[], upd_same, rfl, (fun _ _ z => nomatch z), same_new hS _⟩ ?_ ?_
  · rintro i H1 hi ⟨ks, k1, k2, k3, k4⟩
    refine ⟨rfl, _, rfl, _, rfl, .ref va, rows, i, by simp, hR.same k4, sq.inn, fun r hr => by rw [sq.wide r hr]; exact hi, sq.few, fun l ts H2 s2 hl hts L => ?_⟩
    have hlS : l ≠ S := (ne_of_none k1 hl).symm
    have htS : ∀ t ∈ ts, t ≠ S := fun t ht => (ne_of_none k1 (hts t ht)).symm
    have keep : ∀ {l : Addr} {ts : List Addr} {f : Nat → List Nat} {o : HO}, l ≠ S → (∀ t ∈ ts, t ≠ S) → LsAt H2 l ts rows.length f → LsAt (upd H2 S o) l ts rows.length f := fun h1 h2 L =>
      ⟨by rw [upd_ne h1]; exact L.top, L.len, fun j t e => by rw [upd_ne (h2 t (List.mem_of_getElem? e))]; exact L.each j t e⟩
    refine ⟨_, s2 _ _ k1, by rw [List.length_map, k2]; exact Nat.lt_of_lt_of_le hi (Nat.le_trans hthin (by decide)), ks ++ [l], by rw [upd_same, List.map_append]; rfl, by rw [List.length_append, k2]; rfl, fun a u hu => ?_, fun b o e => ?_⟩
    · rcases Nat.lt_or_ge a ks.length with c | c
      · rw [List.getElem?_append_left c] at hu
        obtain ⟨ts', h1, h2, h3⟩ := k3 a u hu
        exact ⟨ts', h1, h2, keep h1 h2 (h3.same s2)⟩
      · rw [List.getElem?_append_right c] at hu
        have c0 : a - ks.length = 0 := by
          rcases Nat.eq_zero_or_pos (a - ks.length) with w | w
          · exact w
          · rw [List.getElem?_eq_none (by simp; omega)] at hu
            exact nomatch hu
        rw [c0] at hu
        obtain rfl : l = u := Option.some.inj hu
        obtain rfl : a = i := by omega
        exact ⟨ts, hlS, htS, keep hlS htS L⟩
    · rw [upd_ne (ne_of_none e hS)]
      exact s2 _ _ (k4 b o e)
  · rintro Hs ⟨ks, z1, z2, z3, sS⟩
    have hE1 := hE.same sS
    have hva1 := same_T sS hva'
    refine ⟨_, rfl, va, _, rfl, .inr hva1, _, rfl, rows.length, e, ends, by rw [hbl']; rfl, hE1, hel, by omega, fun lf H2 s2 hlf g2 => ⟨lf, rfl, ⟨_, SqL.of g2⟩, fun C hC => ?_⟩⟩
    refine lc_it (walk_list (xs := (flagsOf rows.length ends).map V.bl)) (fun i H' => H' C = some (.lst ((((flagsOf rows.length ends).take i).map fun b => if b = true then 1 else 0).map nI)) ∧ Same H2 H') ⟨upd_same, same_new hC _⟩ (fun i H' _ ⟨_, s⟩ => s.seq (SqL.of g2)) ?_ ?_
    · rintro i x H3 H4 hi ⟨k1, k2⟩ ⟨rfl, hx⟩
      rw [List.getElem?_map] at hx
      obtain ⟨b, hb, rfl⟩ := Option.map_eq_some_iff.mp hx
      have lf' : (flagsOf rows.length ends).length = rows.length := by simp [flagsOf]
      refine ⟨rfl, _, rfl, .inr ⟨_, rfl, _, k1, ?_, ?_, fun c o e => ?_⟩⟩
      · rw [List.length_map, List.length_map]
        exact Nat.lt_of_le_of_lt (List.length_take_le' _ _) (by rw [lf']; exact Nat.lt_of_le_of_lt hfew (by decide))
      · rw [upd_same, List.take_add_one, hb, List.map_append, List.map_append]
        cases b <;> rfl
      · rw [upd_ne (ne_of_none e hC)]
        exact k2 c o e
    · rintro H3 ⟨k1, k2⟩
      rw [List.length_map, List.take_length] at k1
      generalize hcs : ((flagsOf rows.length ends).map fun b => if b = true then 1 else 0) = cs0 at k1
      have cn0 : cs0.length = rows.length := by rw [← hcs]; simp [flagsOf]
      have cl0 : ∀ x, x < rows.length → clsOf cs0 x = if x ∈ ends then 1 else 0 := fun x hx => by
        unfold clsOf
        rw [← hcs, List.getD_eq_getElem?_getD, List.getElem?_map, show (flagsOf rows.length ends)[x]? = some (decide (x ∈ ends)) by unfold flagsOf; rw [List.getElem?_map, List.getElem?_range hx]; rfl]
        by_cases c : x ∈ ends <;> simp [c]
      have hCS : Hs C = none := s2.free hC
      have sC : Same Hs H3 := s2.trans k2
      intro dm hdm
      have sm := same_new hdm (.dK [])
      have kC := sm _ _ k1
      have emd : upd H3 dm (.dK []) dm = some (.dK []) := upd_same
      have hdS : Hs dm = none := sC.free hdm
      have sC' := sC.trans sm
      show tPairs _ _ (upd H3 dm (.dK [])) _
      generalize upd H3 dm (.dK []) = H4 at sm kC emd sC' ⊢
      refine ⟨_, rfl, C, _, rfl, SqL.of kC, fun D1 hD1 => ?_⟩
      refine lc_it (walk_enum (xs := cs0.map nI)) (fun i H' => H' D1 = some (.lst (((List.range i).filter fun x => clsOf cs0 x == 0).map nI)) ∧ Same H4 H') ⟨upd_same, same_new hD1 _⟩ (fun i H' _ ⟨_, s⟩ => s.seq (SqL.of kC)) ?_ ?_
      · rintro i x H5 H6 hi ⟨n1, n2⟩ ⟨T1, x1, y1, rfl, hT, rfl, e1, e2⟩
        obtain rfl : V.int (i : Nat) = x1 := Option.some.inj e1
        rw [List.length_map] at hi
        have e2' : some (nI (clsOf cs0 i)) = some y1 := by
          have z : (cs0.map nI)[i]? = some y1 := e2
          rw [List.getElem?_map, getD_at hi] at z
          exact z
        obtain rfl : nI (clsOf cs0 i) = y1 := Option.some.inj e2'
        have n1' := (upd_ne (o := .tup [V.int (i : Nat), nI (clsOf cs0 i)]) (ne_of_none n1 hT)).trans n1
        have n2' := n2.trans (same_new hT (.tup [V.int (i : Nat), nI (clsOf cs0 i)]))
        refine ⟨T1, _, rfl, SqT.of upd_same, rfl, _, _, rfl, _, _, rfl, rfl, rfl, _, rfl, rfl, _, rfl, ?_⟩
        generalize upd H5 T1 (.tup [V.int (i : Nat), nI (clsOf cs0 i)]) = H7 at n1' n2' ⊢
        by_cases c : clsOf cs0 i = 0
        · refine ite2 (fun _ => ⟨_, rfl, _, n1', ?_, ?_, fun b u e => ?_⟩) (fun z => absurd (decide_eq_true (by rw [c]; rfl)) z)
          · rw [List.length_map]
            refine Nat.lt_of_le_of_lt (List.length_filter_le _ _) ?_
            rw [List.length_range]
            exact Nat.lt_of_lt_of_le (by rw [cn0] at hi; exact hi) (Nat.le_trans hfew (by decide))
          · rw [upd_same, List.range_succ, List.filter_append, List.map_append]
            simp [c]
          · rw [upd_ne (ne_of_none e hD1)]
            exact n2' b u e
        · refine ite2 (fun z => ?_) (fun _ => ⟨?_, n2'⟩)
          · have z' := of_decide_eq_true z
            have z2 : ((clsOf cs0 i : Nat) : Int) = 0 := V.int.inj z'
            omega
          · rw [n1', List.range_succ, List.filter_append]
            simp [c]
      · rintro H5 ⟨n1, n2⟩
        rw [List.length_map, cn0] at n1
        obtain ⟨ae, rfl, hae⟩ := hE1
        have n2s := sC'.trans n2
        refine ⟨_, rfl, ae, _, rfl, .inr (same_T n2s hae), fun l2 hl2 => ?_⟩
        have s6 := same_new hl2 (.lst (ends.map nI))
        refine ⟨s6 _ _ (n2 _ _ emd), [(Sum.inl 0, .ref D1), (Sum.inl 1, .ref l2)], rfl, (by show 2 ≤ 15; decide), ?_⟩
        have eD1 := s6 _ _ n1
        have el2 : upd H5 l2 (.lst (ends.map nI)) l2 = some (.lst (ends.map nI)) := upd_same
        have s6s := n2s.trans s6
        have kC6 := s6 _ _ (n2 _ _ kC)
        have hD1S : Hs D1 = none := sC'.free hD1
        have hl2S : Hs l2 = none := n2s.free hl2
        have e61 : D1 ≠ l2 := ne_of_none n1 hl2
        have e62 : C ≠ D1 := ne_of_none kC hD1
        have e63 : C ≠ l2 := ne_of_none (n2 _ _ kC) hl2
        have e64 : D1 ≠ dm := (ne_of_none emd hD1).symm
        have e65 : l2 ≠ dm := (ne_of_none (n2 _ _ emd) hl2).symm
        have e66 : C ≠ dm := ne_of_none k1 hdm
        generalize upd H5 l2 (.lst (ends.map nI)) = H6 at s6 eD1 el2 s6s kC6 ⊢
        show gName 5 _ _ (upd H6 dm (.dK (refK [(0, D1), (1, l2)]))) _
        have f1 : upd H6 dm (.dK (refK [(0, D1), (1, l2)])) dm = some (.dK (refK [(0, D1), (1, l2)])) := upd_same
        have f2 : upd H6 dm (.dK (refK [(0, D1), (1, l2)])) C = some (.lst (cs0.map nI)) := (upd_ne e66).trans kC6
        have f3 : upd H6 dm (.dK (refK [(0, D1), (1, l2)])) D1 = some (.lst (((List.range rows.length).filter fun x => clsOf cs0 x == 0).map nI)) := (upd_ne e64).trans eD1
        have f4 : upd H6 dm (.dK (refK [(0, D1), (1, l2)])) l2 = some (.lst (ends.map nI)) := (upd_ne e65).trans el2
        have f5 : Same Hs (upd H6 dm (.dK (refK [(0, D1), (1, l2)]))) := fun b o e => by rw [upd_ne (ne_of_none e hdS)]; exact s6s b o e
        generalize upd H6 dm (.dK (refK [(0, D1), (1, l2)])) = H7 at f1 f2 f3 f4 f5 ⊢
        refine ⟨by show 2 ≤ sizeLine; decide, fun lw hlw => ?_⟩
        have s8 := same_new hlw (.lst [V.int 0, V.int 1])
        have g1 : upd H7 lw (.lst [V.int 0, V.int 1]) lw = some (.lst (([0, 1] : List Nat).map nI)) := upd_same
        have ci : CI Hs (upd H7 lw (.lst [V.int 0, V.int 1])) C lw dm rows.length cs0 [(0, D1), (1, l2)] 2 := by
          refine ⟨f5.trans s8, s8 _ _ f2, cn0, s8 _ _ f1, rfl, fun p hp => ?_, fun x hx => ?_⟩
          · rcases List.mem_cons.mp hp with rfl | hp
            · refine ⟨e62.symm, ne_of_none f3 hlw, _, s8 _ _ f3, List.Pairwise.filter _ List.nodup_range, fun x => ?_⟩
              rw [List.mem_filter, List.mem_range, beq_iff_eq]
            · rw [List.mem_singleton.mp hp]
              refine ⟨e63.symm, ne_of_none f4 hlw, _, s8 _ _ f4, hend, fun x => ⟨fun hx => ⟨hel x hx, ?_⟩, fun hx => ?_⟩⟩
              · rw [cl0 x (hel x hx), if_pos hx]
              · have z := hx.2
                rw [cl0 x hx.1] at z
                by_cases c : x ∈ ends
                · exact c
                · rw [if_neg c] at z
                  exact nomatch z
          · rw [cl0 x hx]
            split <;> omega
        have hlwS : Hs lw = none := f5.free hlw
        have hClw : C ≠ lw := ne_of_none f2 hlw
        show gName 6 _ _ (upd H7 lw (.lst [V.int 0, V.int 1])) _
        generalize upd H7 lw (.lst [V.int 0, V.int 1]) = H8 at g1 ci ⊢
        have hd' : ∀ a x, a < k → x < rows.length → nextOf rows a x < rows.length := fun a x ha hx => rowOf_mem sq.inn _ (List.mem_of_getElem? (next_at hx fun r hr => by rw [sq.wide r hr]; exact ha))
        have rf0 : Hop.Ref rows.length k (nextOf rows) (fun x => x ∈ ends) (clsOf cs0) := by
          refine ⟨fun p q' hp hq e => ?_, fun R r1 r2 p q' hp hq h => ?_⟩
          · rw [cl0 p hp, cl0 q' hq] at e
            by_cases c1 : p ∈ ends <;> by_cases c2 : q' ∈ ends
            · exact iff_of_true c1 c2
            · rw [if_pos c1, if_neg c2] at e; exact nomatch e
            · rw [if_neg c1, if_pos c2] at e; exact nomatch e
            · exact iff_of_false c1 c2
          · rw [cl0 p hp, cl0 q' hq]
            have z := r1 p q' h
            by_cases c1 : p ∈ ends
            · rw [if_pos c1, if_pos (z.mp c1)]
            · rw [if_neg c1, if_neg fun y => c1 (z.mpr y)]
        have pb : Hop.pairs rows.length (clsOf cs0) ≤ rows.length * rows.length := Hop.pairs_le _ _
        have nn : rows.length * rows.length ≤ 1000000 := Nat.mul_le_mul hfew hfew
        have wi0 : WI Hs H8 C lw dm rows.length k (nextOf rows) (fun x => x ∈ ends) cs0 [(0, D1), (1, l2)] 2 [0, 1] (2 * (rows.length * rows.length) + 2) :=
          ⟨ci, g1, fun c hc => by simp at hc; omega, rf0, by show _ + 2 ≤ _; omega, by omega⟩
        have hCdm := e66
        have hlwdm : lw ≠ dm := by
          intro z
          rw [z, ci.dt] at g1
          exact nomatch g1
        refine ⟨fun m σ H' => m ≤ 2 * (rows.length * rows.length) + 2 ∧ ∃ (cs : List Nat) (es : List (Nat × Addr)) (kk : Nat) (W : List Nat) (v4 v7 v8 v9 v10 v11 v12 v13 : Option V), σ = [some (.ref va), some (.ref ae), some (.ref S), some (.ref C), v4, some (.ref dm), some (.ref lw), v7, v8, v9, v10, v11, v12, v13, none, none, none] ∧
          WI Hs H' C lw dm rows.length k (nextOf rows) (fun x => x ∈ ends) cs es kk W m ∧ Hop.Jn rows.length k (nextOf rows) (clsOf cs) (fun c => c ∈ W) (fun _ => False) (fun _ => False),
          ⟨_, Nat.le_refl _, cs0, _, 2, [0, 1], none, none, none, none, none, none, none, none, rfl, wi0, fun p q' a hp hq ha e ne => ?_⟩, ?_⟩
        · refine .inl ?_
          rw [cl0 _ (hd' a p ha hp)]
          split <;> simp
        rintro m σ H' ⟨hmB, cs, es, kk, W, v4, v7, v8, v9, v10, v11, v12, v13, rfl, wi, jn⟩
        refine ⟨_, rfl, _, .inl ⟨_, SqL.of wi.wt, rfl⟩, ?_⟩
        rcases List.eq_nil_or_concat W with rfl | ⟨W', c, hW⟩
        · refine ⟨_, rfl, q C cs H' (sS.trans wi.ci.same) (sS.free hCS) wi.ci.cl wi.ci.cn wi.rf fun p q' a hp hq ha e => ?_⟩
          by_cases z : clsOf cs (nextOf rows a p) = clsOf cs (nextOf rows a q')
          · exact z
          · rcases jn p q' a hp hq ha e z with h | h | h
            · exact nomatch h
            · exact nomatch h
            · exact h.1.elim
        · rw [List.concat_eq_append] at hW
          subst hW
          have ne : (!((W' ++ [c]).map nI).isEmpty) = true := by simp
          rw [ne, if_pos rfl]
          have hck := wi.wk c (by simp)
          obtain ⟨li, ins, hli, hval, li1, li2, hins, insn, insm⟩ := wi.ci.at hck
          have hmlen := wi.ms
          rw [List.length_append] at hmlen
          have insR : ∀ R : Nat → Nat → Prop, (∀ p q, R p q → (p ∈ ends ↔ q ∈ ends)) → (∀ p q, R p q → ∀ a, a < k → R (nextOf rows a p) (nextOf rows a q)) → ∀ p q, p < rows.length → q < rows.length → R p q → (p ∈ ins ↔ q ∈ ins) := fun R r1 r2 p q' hp hq h => by
            have e := wi.rf.mx R r1 r2 p q' hp hq h
            rw [insm p, insm q', e]
            exact ⟨fun z => ⟨hq, z.2⟩, fun z => ⟨hp, z.2⟩⟩
          refine ⟨fun σ' H'' => ∃ (cs : List Nat) (es : List (Nat × Addr)) (kk : Nat) (W : List Nat) (v4 v7 v8 v9 v10 v11 v12 v13 : Option V), σ' = [some (.ref va), some (.ref ae), some (.ref S), some (.ref C), v4, some (.ref dm), some (.ref lw), v7, v8, v9, v10, v11, v12, v13, none, none, none] ∧
            WI Hs H'' C lw dm rows.length k (nextOf rows) (fun x => x ∈ ends) cs es kk W (m - 1) ∧ Hop.Jn rows.length k (nextOf rows) (clsOf cs) (fun c => c ∈ W) (fun _ => False) (fun _ => False), fun σ' H'' z => ⟨m - 1, by simp at hmlen; omega, by omega, z⟩, ?_⟩
          have hlast : ((W' ++ [c]).map nI)[((W' ++ [c]).map nI).length - 1]? = some (nI c) := by
            rw [List.length_map, List.getElem?_map, List.length_append]
            simp
          have hdrop : ((W' ++ [c]).map nI).dropLast = W'.map nI := by rw [List.map_append]; simp
          refine ⟨_, rfl, _, rfl, .inl ⟨rfl, _, SqL.of wi.wt⟩, lw, _, nI c, rfl, rfl, wi.wt, hlast, dm, .ref li, rfl, ?_, ?_⟩
          · rw [← hval]
            exact DGet.k (k := Sum.inl (c : Int)) (by rw [upd_ne hlwdm.symm]; exact wi.ci.dt)
          rw [hdrop]
          have wi1 : WI Hs (upd H' lw (.lst (W'.map nI))) C lw dm rows.length k (nextOf rows) (fun x => x ∈ ends) cs es kk W' (m - 1) :=
            ⟨wi.ci.upd _ hlwS hClw.symm hlwdm (fun p hp => (wi.ci.mem p hp).2.1), upd_same, fun c' hc' => wi.wk c' (List.mem_append_left _ hc'), wi.rf, by simp at hmlen; omega, wi.kb⟩
          have hli1 : upd H' lw (.lst (W'.map nI)) li = some (.lst (ins.map nI)) := by rw [upd_ne li2]; exact hins
          show gName 7 _ _ (upd H' lw (.lst (W'.map nI))) _
          generalize upd H' lw (.lst (W'.map nI)) = H1 at wi1 hli1 ⊢
          have insS : ∀ x, x < rows.length → (x ∈ ins ↔ clsOf cs x = c) := fun x hx => (insm x).trans ⟨fun z => z.2, fun z => ⟨hx, z⟩⟩
          have jn1 := Hop.Jn.pop (W' := fun c => c ∈ W') (C := c) (S := fun x => x ∈ ins) jn hd' (fun c' hc' => by simp at hc'; exact hc'.symm) insS
          refine ⟨_, rfl, S, rfl, ⟨_, SqL.of (wi1.ci.same _ _ z1)⟩, ?_⟩
          refine for_it (walk_list (xs := ks.map V.ref)) (fun a σ H2 => ∃ (cs : List Nat) (es : List (Nat × Addr)) (kk : Nat) (W : List Nat) (v4 v8 v9 v10 v11 v12 v13 : Option V), σ = [some (.ref va), some (.ref ae), some (.ref S), some (.ref C), v4, some (.ref dm), some (.ref lw), some (.ref li), v8, v9, v10, v11, v12, v13, none, none, none] ∧
            WI Hs H2 C lw dm rows.length k (nextOf rows) (fun x => x ∈ ends) cs es kk W (m - 1) ∧ Hop.Jn rows.length k (nextOf rows) (clsOf cs) (fun c => c ∈ W) (fun x => x ∈ ins) (fun a' => a ≤ a' ∧ a' < k) ∧ H2 li = some (.lst (ins.map nI)))
            ⟨cs, es, kk, W', v4, v8, v9, v10, v11, v12, v13, rfl, wi1, fun p q' a hp hq ha e ne => (jn1 p q' a hp hq ha e ne).imp id (Or.imp id fun z => ⟨⟨Nat.zero_le _, z.1⟩, z.2⟩), hli1⟩ (fun a σ H2 _ ⟨_, _, _, _, _, _, _, _, _, _, _, _, w2, _⟩ => SqL.of (w2.ci.same _ _ z1)) ?_ ?_
          · rintro a x σ H2 H3 ha ⟨cs, es, kk, W, v4, v8, v9, v10, v11, v12, v13, rfl, wi2, jn2, hli2⟩ ⟨rfl, hx⟩
            rw [List.length_map, z2] at ha
            rw [List.getElem?_map] at hx
            obtain ⟨l, hl, rfl⟩ := Option.map_eq_some_iff.mp hx
            obtain ⟨ts, _, _, L⟩ := z3 a l hl
            have xnd := hit_nodup (rows := rows) (a := a) insn
            have xlen : (ins.flatMap (srcOf rows a)).length ≤ 1000 := Nat.le_trans (nodup_lt _ _ xnd fun x hx => (mem_hit.mp hx).1) hfew
            refine ⟨_, rfl, _, rfl, _, rfl, l, li, C, ts, rows.length, srcOf rows a, ins, cs, rfl, L.same wi2.ci.same, hli2, wi2.ci.cl, wi2.ci.cn, fun t ht => ((insm t).mp ht).1, fun t _ x hx => (mem_src.mp hx).1, by omega, fun d hs H4 s4 hdn hpn hits => ?_⟩
            have dC : C ≠ d := ne_of_none wi2.ci.cl hdn
            have dlw : lw ≠ d := ne_of_none wi2.wt hdn
            have ddm : dm ≠ d := ne_of_none wi2.ci.dt hdn
            have dli : li ≠ d := ne_of_none hli2 hdn
            have hdS' : Hs d = none := wi2.ci.same.free hdn
            have hpl : ∀ p ∈ hs, p.2 ≠ d ∧ p.2 ≠ C ∧ p.2 ≠ lw := fun p hp => ⟨ne_of (hits.each p hp) hits.top (by intro z; cases z), (ne_of_none wi2.ci.cl (hpn p hp)).symm, (ne_of_none wi2.wt (hpn p hp)).symm⟩
            refine ⟨d, _, hits.top, trivial, fun od => ?_⟩
            refine ⟨_, rfl, d, od, _, rfl, upd_same, ?_⟩
            have wi5 := (wi2.up s4).upd (x := d) (.frz od (.dK (refK hs))) hdS' dC.symm ddm.symm (fun p hp => by obtain ⟨_, _, ms, m3, _⟩ := wi2.ci.mem p hp; exact ne_of_none m3 hdn) dlw.symm
            have hli5 : upd H4 d (.frz od (.dK (refK hs))) li = some (.lst (ins.map nI)) := by rw [upd_ne dli]; exact s4 _ _ hli2
            have hit5 : ∀ p ∈ hs, upd H4 d (.frz od (.dK (refK hs))) p.2 = some (.lst (((ins.flatMap (srcOf rows a)).filter fun x => clsOf cs x == p.1).map nI)) := fun p hp => by rw [upd_ne (hpl p hp).1]; exact hits.each p hp
            have frz5 : upd H4 d (.frz od (.dK (refK hs))) d = some (.frz od (.dK (refK hs))) := upd_same
            generalize upd H4 d (.frz od (.dK (refK hs))) = H5 at wi5 hli5 hit5 frz5 ⊢
            refine for_it walk_items (fun i σ H6 => ∃ (cs' : List Nat) (es' : List (Nat × Addr)) (kk' : Nat) (W' : List Nat) (v4 v10 v11 v12 v13 : Option V), σ = [some (.ref va), some (.ref ae), some (.ref S), some (.ref C), v4, some (.ref dm), some (.ref lw), some (.ref li), some (.ref l), some (.ref d), v10, v11, v12, v13, none, none, none] ∧
              WI Hs H6 C lw dm rows.length k (nextOf rows) (fun x => x ∈ ends) cs' es' kk' W' (m - 1) ∧ Hop.Jn rows.length k (nextOf rows) (clsOf cs') (fun c => c ∈ W') (fun x => x ∈ ins) (fun a' => a ≤ a' ∧ a' < k) ∧
              Hop.Mid rows.length (clsOf cs) (clsOf cs') ((hs.take i).map (·.1)) (fun x => nextOf rows a x ∈ ins) ∧ H6 li = some (.lst (ins.map nI)) ∧ H6 d = some (.frz od (.dK (refK hs))) ∧ (∀ p ∈ hs, H6 p.2 = some (.lst (((ins.flatMap (srcOf rows a)).filter fun x => clsOf cs x == p.1).map nI))))
              ⟨cs, es, kk, W, v4, v10, v11, v12, v13, rfl, wi5, jn2, Hop.Mid.start _ _, hli5, frz5, hit5⟩ (fun i σ H6 _ ⟨_, _, _, _, _, _, _, _, _, _, _, _, _, _, w6, _⟩ => w6) ?_ ?_
            · rintro i x σ H6 H7 hi ⟨cs', es', kk', W', v4, v10, v11, v12, v13, rfl, wi6, jn6, mid, hli6, frz6, hit6⟩ ⟨T1, x1, y1, rfl, hT, rfl, e1, e2⟩
              rw [List.length_map] at hi
              have hp : hs[i] ∈ hs := List.getElem_mem hi
              have hpi : hs[i]? = some hs[i] := List.getElem?_eq_getElem hi
              have hn : hs[i].1 ∉ (hs.take i).map (·.1) := fun z => by
                obtain ⟨p, hp', e⟩ := List.mem_map.mp z
                obtain ⟨j, hj, e'⟩ := List.getElem_of_mem hp'
                rw [List.length_take] at hj
                rw [List.getElem_take] at e'
                have f := List.pairwise_iff_getElem.mp hits.keys j i (by rw [List.length_map]; omega) (by rw [List.length_map]; omega) (by omega)
                rw [List.getElem_map, List.getElem_map, e'] at f
                exact f e
              have hnx : (hs.take (i + 1)).map (·.1) = (hs.take i).map (·.1) ++ [hs[i].1] := by
                rw [List.take_add_one, hpi, List.map_append]
                rfl
              rw [hnx]
              have e1' : ((refK hs)[i]?).map (fun kv => kV kv.1) = some x1 := e1
              have e2' : ((refK hs)[i]?).map Prod.snd = some y1 := e2
              rw [List.getElem?_map, hpi] at e1' e2'
              have hx1 : V.int ((hs[i].1 : Nat) : Int) = x1 := Option.some.inj e1'
              have hy1 : V.ref hs[i].2 = y1 := Option.some.inj e2'
              clear e1 e2 e1' e2'
              subst hx1 hy1
              generalize hs[i] = p at hp hn ⊢
              obtain ⟨old, t1⟩ := p
              have sT := same_new hT (.tup [V.int ((old : Nat) : Int), .ref t1])
              refine ⟨T1, _, rfl, SqT.of upd_same, rfl, _, _, rfl, _, _, rfl, rfl, ?_⟩
              have wi7 := wi6.up sT
              have hli7 := sT _ _ hli6
              have frz7 := sT _ _ frz6
              have hit7 := fun p hp => sT _ _ (hit6 p hp)
              show tIfS _ _ _ _ _ (upd H6 T1 (.tup [V.int ((old : Nat) : Int), .ref t1]))
              generalize upd H6 T1 (.tup [V.int ((old : Nat) : Int), .ref t1]) = H8 at wi7 hli7 frz7 hit7 ⊢
              obtain ⟨x0, hx0, hc0⟩ := hits.some _ hp
              have hx0n := (mem_hit.mp hx0).1
              have hold : old < kk' := by
                have z := wi7.ci.lt x0 hx0n
                rw [mid.un x0 hx0n (by rw [hc0]; exact hn), hc0] at z
                exact z
              obtain ⟨t0, ms0, ht0, hval0, t0C, t0lw, hms, msn, msm⟩ := wi7.ci.at hold
              have msm' : ∀ x, x ∈ ms0 ↔ x < rows.length ∧ clsOf cs x = old := fun x => by
                rw [msm x]
                constructor
                · rintro ⟨h1, h2⟩
                  refine ⟨h1, ?_⟩
                  have e0 : clsOf cs' x0 = old := by rw [mid.un x0 hx0n (by rw [hc0]; exact hn), hc0]
                  exact (mid.ref x x0 h1 hx0n (h2.trans e0.symm)).trans hc0
                · rintro ⟨h1, h2⟩
                  exact ⟨h1, by rw [mid.un x h1 (by rw [h2]; exact hn)]; exact h2⟩
              have hl7 := hit7 _ hp
              have hlm : ∀ x, x ∈ (ins.flatMap (srcOf rows a)).filter (fun x => clsOf cs x == old) ↔ (x < rows.length ∧ nextOf rows a x ∈ ins) ∧ clsOf cs x = old := fun x => by rw [List.mem_filter, mem_hit, beq_iff_eq]
              have hlnd : ((ins.flatMap (srcOf rows a)).filter fun x => clsOf cs x == old).Nodup := List.Pairwise.filter _ xnd
              have hllen : ((ins.flatMap (srcOf rows a)).filter fun x => clsOf cs x == old).length ≤ 1000 := Nat.le_trans (List.length_filter_le _ _) xlen
              have tp := hpl _ hp
              generalize (ins.flatMap (srcOf rows a)).filter (fun x => clsOf cs x == old) = hlist at hl7 hlm hlnd hllen
              have hsub : ∀ x ∈ hlist, x ∈ ms0 := fun x hx => (msm' x).mpr ⟨((hlm x).mp hx).1.1, ((hlm x).mp hx).2⟩
              have ms1000 : ms0.length ≤ 1000 := Nat.le_trans (nodup_lt _ _ msn fun x hx => ((msm x).mp hx).1) hfew
              have dget : ∀ {Hx : Hp}, Hx dm = some (.dK (refK es')) → DGet Hx dm (nI old) (some (.ref t0)) := fun h => by rw [← hval0]; exact DGet.k (k := Sum.inl (old : Int)) h
              refine ⟨_, rfl, t1, _, rfl, .inl (SqL.of hl7), _, rfl, _, rfl, dm, .ref t0, rfl, dget wi7.ci.dt, t0, _, rfl, .inl (SqL.of hms), _, _, rfl, rfl, _, rfl, ?_⟩
              rw [List.length_map, List.length_map]
              refine ite2 (fun hlt => ?_) (fun hge => ?_)
              · have hlt' : hlist.length < ms0.length := by
                  have z : ((hlist.length : Int) < (ms0.length : Int)) := of_decide_eq_true hlt
                  omega
                have kkl : (refK es').length = kk' := by
                  have z := congrArg List.length wi7.ci.ek
                  rw [List.length_map, List.length_range] at z
                  rw [List.length_map]
                  exact z
                have kbig : kk' ≤ 2000002 := by have := wi7.kb; omega
                refine ⟨_, rfl, dm, _, rfl, wi7.ci.dt, ?_⟩
                rw [kkl]
                refine ⟨_, rfl, _, rfl, dm, .ref t0, rfl, dget wi7.ci.dt, _, rfl, t0, t1, ms0, hlist, rfl, hms, hl7, hlnd, ms1000, hllen, fun l part H9 s9 hlf hpart hor => ?_⟩
                have wi9 := wi7.up s9
                have hli9 := s9 _ _ hli7
                have frz9 := s9 _ _ frz7
                have hit9 := fun p hp => s9 _ _ (hit7 p hp)
                have hms9 := s9 _ _ hms
                have lC : l ≠ C := by
                  rcases hlf with e | e
                  · rw [e]; exact tp.2.1
                  · exact (ne_of_none wi7.ci.cl e).symm
                have llw : l ≠ lw := by
                  rcases hlf with e | e
                  · rw [e]; exact tp.2.2
                  · exact (ne_of_none wi7.wt e).symm
                have ldm : l ≠ dm := ne_of hpart wi9.ci.dt (by intro z; cases z)
                have psub : ∀ x ∈ part, x ∈ ms0 := fun x hx => by
                  rcases hor with e | e
                  · rw [e] at hx; exact hsub x hx
                  · rw [e] at hx; exact (List.mem_filter.mp hx).1
                have pnd : part.Nodup := by
                  rcases hor with e | e
                  · rw [e]; exact hlnd
                  · rw [e]; exact List.Pairwise.filter _ msn
                have plt : ∀ x ∈ part, x < rows.length := fun x hx => ((msm x).mp (psub x hx)).1
                have pcl : ∀ x ∈ part, clsOf cs' x = old := fun x hx => ((msm x).mp (psub x hx)).2
                have pcl0 : ∀ x ∈ part, clsOf cs x = old := fun x hx => ((msm' x).mp (psub x hx)).2
                have fresh : ∀ x, x < rows.length → clsOf cs' x ≠ kk' := fun x hx e => by have := wi9.ci.lt x hx; omega
                have phh : (∀ x, x < rows.length → clsOf cs x = old → (x ∈ part ↔ nextOf rows a x ∈ ins)) ∨ (∀ x, x < rows.length → clsOf cs x = old → (x ∈ part ↔ ¬ nextOf rows a x ∈ ins)) := by
                  rcases hor with e | e
                  · exact .inl fun x hx ec => by rw [e, hlm x]; exact ⟨fun z => z.1.2, fun z => ⟨⟨hx, z⟩, ec⟩⟩
                  · refine .inr fun x hx ec => ?_
                    rw [e, List.mem_filter]
                    simp only [Bool.not_eq_true', decide_eq_false_iff_not]
                    rw [hlm x]
                    exact ⟨fun z y => z.2 ⟨⟨hx, y⟩, ec⟩, fun z => ⟨(msm' x).mpr ⟨hx, ec⟩, fun y => z y.1.2⟩⟩
                have two : ∃ p0 q0, p0 < rows.length ∧ q0 < rows.length ∧ p0 ∈ part ∧ q0 ∉ part ∧ clsOf cs' p0 = clsOf cs' q0 := by
                  have x0m : x0 ∈ hlist := (hlm x0).mpr ⟨⟨hx0n, (mem_hit.mp hx0).2⟩, hc0⟩
                  obtain ⟨y0, y1, y2⟩ : ∃ y, y ∈ ms0 ∧ y ∉ hlist := Classical.byContradiction fun z => by
                    have z2 := nodup_sub ms0 hlist msn fun y hy => Classical.byContradiction fun w => z ⟨y, hy, w⟩
                    omega
                  have cx : clsOf cs' x0 = old := ((msm x0).mp (hsub x0 x0m)).2
                  have cy : clsOf cs' y0 = old := ((msm y0).mp y1).2
                  have ly := ((msm y0).mp y1).1
                  rcases hor with e | e
                  · exact ⟨x0, y0, hx0n, ly, by rw [e]; exact x0m, by rw [e]; exact y2, cx.trans cy.symm⟩
                  · refine ⟨y0, x0, ly, hx0n, by rw [e]; exact List.mem_filter.mpr ⟨y1, by simp [y2]⟩, fun z => ?_, cy.trans cx.symm⟩
                    rw [e] at z
                    have z2 := (List.mem_filter.mp z).2
                    simp [x0m] at z2
                refine ⟨_, rfl, l, rfl, ⟨_, SqL.of hpart⟩, ?_⟩
                refine for_it (walk_list (xs := part.map nI)) (fun j σ H10 => ∃ v4 : Option V, σ = [some (.ref va), some (.ref ae), some (.ref S), some (.ref C), v4, some (.ref dm), some (.ref lw), some (.ref li), some (.ref _), some (.ref d), some (nI old), some (.ref t1), some (nI kk'), some (.ref l), none, none, none] ∧
                  H10 C = some (.lst ((setAll rows.length cs' (part.take j) kk').map nI)) ∧ (∀ b u, b ≠ C → H9 b = some u → H10 b = some u))
                  ⟨_, rfl, by rw [List.take_zero, setAll_nil wi9.ci.cn]; exact wi9.ci.cl, fun _ _ _ e => e⟩ (fun j σ H10 _ ⟨_, _, _, s⟩ => SqL.of (s _ _ lC hpart)) ?_ ?_
                · rintro j x σ H10 H11 hj ⟨u4, rfl, g1, g2⟩ ⟨rfl, hx⟩
                  rw [List.getElem?_map] at hx
                  obtain ⟨y, hy, rfl⟩ := Option.map_eq_some_iff.mp hx
                  have hyn := plt y (List.mem_of_getElem? hy)
                  refine ⟨_, rfl, _, rfl, _, rfl, C, _, (y : Int), y, rfl, rfl, g1, ixN_nat (by simp [setAll]; exact hyn), _, rfl, ?_, fun b u n e => ?_⟩
                  · rw [upd_same, ← List.map_set, setAll_set hyn, List.take_add_one, hy]
                    rfl
                  · rw [upd_ne n]
                    exact g2 b u n e
                · rintro σ H10 ⟨u4, rfl, g1, g2⟩
                  rw [List.length_map, List.take_length] at g1
                  have dt10 : H10 dm = some (.dK (refK es')) := g2 _ _ hCdm.symm wi9.ci.dt
                  have t010 : H10 t0 = some (.lst (ms0.map nI)) := g2 _ _ t0C hms9
                  refine ⟨_, rfl, _, rfl, _, rfl, dm, _, rfl, DPut.k (k := Sum.inl (kk' : Int)) dt10 (by rw [kkl]; exact Nat.lt_of_le_of_lt kbig (by decide)), ?_⟩
                  have kno : kk' ∉ es'.map (·.1) := by rw [wi9.ci.ek]; simp
                  rw [putK_new _ (refK_none kno)]
                  have er2 : refK es' ++ [((Sum.inl ((kk' : Nat) : Int) : Key), V.ref l)] = refK (es' ++ [(kk', l)]) := by unfold refK; rw [List.map_append]; rfl
                  rw [er2]
                  have ek2 : (es' ++ [(kk', l)]).map (·.1) = List.range (kk' + 1) := by rw [List.map_append, wi9.ci.ek, List.range_succ]; rfl
                  have e11 : upd H10 dm (.dK (refK (es' ++ [(kk', l)]))) dm = some (.dK (refK (es' ++ [(kk', l)]))) := upd_same
                  have k11 : ∀ b u, b ≠ dm → H10 b = some u → upd H10 dm (.dK (refK (es' ++ [(kk', l)]))) b = some u := fun b u n e => by rw [upd_ne n]; exact e
                  generalize upd H10 dm (.dK (refK (es' ++ [(kk', l)]))) = H11 at e11 k11 ⊢
                  have t0dm : t0 ≠ dm := ne_of hms9 wi9.ci.dt (by intro z; cases z)
                  have t011 := k11 _ _ t0dm t010
                  have c11 := k11 _ _ hCdm g1
                  have hv2 : valV (refK (es' ++ [(kk', l)])) (Sum.inl (old : Int)) = some (.ref t0) := refK_some (by rw [ek2]; exact List.nodup_range) (List.mem_append_left _ ht0)
                  refine ⟨_, rfl, _, rfl, dm, .ref t0, rfl, by rw [← hv2]; exact DGet.k (k := Sum.inl (old : Int)) e11, t0, rfl, ⟨_, SqL.of t011⟩, fun D9 hD9 => ?_⟩
                  have D9C : D9 ≠ C := (ne_of_none c11 hD9).symm
                  have lw11 : H11 lw = some (.lst (W'.map nI)) := k11 _ _ hlwdm (g2 _ _ hClw.symm wi9.wt)
                  have D9lw : D9 ≠ lw := (ne_of_none lw11 hD9).symm
                  have D9dm : D9 ≠ dm := (ne_of_none e11 hD9).symm
                  refine lc_it (walk_list (xs := ms0.map nI)) (fun j H' => H' D9 = some (.lst (((ms0.take j).filter fun x => Hop.split (clsOf cs') part kk' x == old).map nI)) ∧ Same H11 H') ⟨upd_same, same_new hD9 _⟩ (fun i H' _ ⟨_, s⟩ => s.seq (SqL.of t011)) ?_ ?_
                  · rintro j x H12 H13 hj ⟨n1, n2⟩ ⟨rfl, hx⟩
                    rw [List.getElem?_map] at hx
                    obtain ⟨y, hy, rfl⟩ := Option.map_eq_some_iff.mp hx
                    have hyn := ((msm y).mp (List.mem_of_getElem? hy)).1
                    have hcy : ((setAll rows.length cs' part kk').map nI)[y]? = some (nI (Hop.split (clsOf cs') part kk' y)) := by
                      unfold setAll
                      rw [List.getElem?_map, List.getElem?_map, List.getElem?_range hyn]
                      rfl
                    refine ⟨rfl, _, rfl, _, rfl, C, _, _, nI (Hop.split (clsOf cs') part kk' y), rfl, rfl, SqL.of (n2 _ _ c11), atI_nat hcy, _, rfl, rfl, _, rfl, ?_⟩
                    by_cases c : Hop.split (clsOf cs') part kk' y = old
                    · refine ite2 (fun _ => ⟨_, rfl, _, n1, ?_, ?_, fun b u e => ?_⟩) (fun z => absurd (decide_eq_true (by rw [c])) z)
                      · rw [List.length_map]
                        exact Nat.lt_of_le_of_lt (Nat.le_trans (List.length_filter_le _ _) (Nat.le_trans (List.length_take_le' _ _) ms1000)) (by decide)
                      · rw [upd_same, List.take_add_one, hy, List.filter_append, List.map_append]
                        simp [c]
                      · rw [upd_ne (ne_of_none e hD9)]
                        exact n2 b u e
                    · refine ite2 (fun z => ?_) (fun _ => ⟨?_, n2⟩)
                      · have z2 : ((Hop.split (clsOf cs') part kk' y : Nat) : Int) = (old : Int) := V.int.inj (of_decide_eq_true z)
                        omega
                      · rw [n1, List.take_add_one, hy, List.filter_append]
                        simp [c]
                  · rintro H12 ⟨n1, n2⟩
                    rw [List.length_map, List.take_length] at n1
                    refine ⟨_, rfl, _, rfl, dm, _, rfl, DPut.k (k := Sum.inl (old : Int)) (n2 _ _ e11) ?_, ?_⟩
                    · rw [List.length_map, List.length_append]
                      have z := kkl
                      rw [List.length_map] at z
                      rw [z]
                      show kk' + 1 < sizeLine
                      rw [sizeLine_eq]
                      omega
                    rw [refK_put (by rw [ek2]; exact List.mem_range.mpr (by omega))]
                    have e13 : upd H12 dm (.dK (refK ((es' ++ [(kk', l)]).map fun e => if e.1 = old then (old, D9) else e))) dm = some (.dK (refK ((es' ++ [(kk', l)]).map fun e => if e.1 = old then (old, D9) else e))) := upd_same
                    have k13 : ∀ b u, b ≠ dm → H12 b = some u → upd H12 dm (.dK (refK ((es' ++ [(kk', l)]).map fun e => if e.1 = old then (old, D9) else e))) b = some u := fun b u n e => by rw [upd_ne n]; exact e
                    generalize upd H12 dm (.dK (refK ((es' ++ [(kk', l)]).map fun e => if e.1 = old then (old, D9) else e))) = H13 at e13 k13 ⊢
                    have lw13 := k13 _ _ hlwdm (n2 _ _ lw11)
                    have hw' := wi9.ms
                    refine ⟨_, rfl, .inl ⟨rfl, _, SqL.of lw13⟩, _, rfl, lw, _, _, rfl, rfl, lw13, by rw [List.length_map, sizeLine_eq]; omega, ?_⟩
                    have keep : ∀ b u, b ≠ C → b ≠ dm → b ≠ lw → H9 b = some u → upd H13 lw (.lst (W'.map nI ++ [nI kk'])) b = some u := fun b u h1 h2 h3 e => by
                      rw [upd_ne h3]
                      exact k13 _ _ h2 (n2 _ _ (k11 _ _ h2 (g2 _ _ h1 e)))
                    have spl : ∀ x, x < rows.length → clsOf (setAll rows.length cs' part kk') x = Hop.split (clsOf cs') part kk' x := fun x hx => setAll_cls hx
                    obtain ⟨p0, q0, p1, p2, p3, p4, p5⟩ := two
                    have pl := Hop.pairs_split fresh pcl p1 p2 p3 p4 p5
                    have pe := Hop.pairs_congr spl
                    have ci14 : CI Hs (upd H13 lw (.lst (W'.map nI ++ [nI kk']))) C lw dm rows.length (setAll rows.length cs' part kk') ((es' ++ [(kk', l)]).map fun e => if e.1 = old then (old, D9) else e) (kk' + 1) := by
                      refine ⟨fun b u e => keep b u (ne_of_none e hCS) (ne_of_none e hdS) (ne_of_none e hlwS) (wi9.ci.same b u e), ?_, by unfold setAll; simp, ?_, by rw [keys_put, ek2], fun p hp => ?_, fun x hx => ?_⟩
                      · rw [upd_ne hClw]
                        exact k13 _ _ hCdm (n2 _ _ c11)
                      · rw [upd_ne hlwdm.symm]
                        exact e13
                      · obtain ⟨e, he, rfl⟩ := List.mem_map.mp hp
                        by_cases ce : e.1 = old
                        · rw [if_pos ce]
                          refine ⟨D9C, D9lw, (ms0.filter fun x => Hop.split (clsOf cs') part kk' x == old), ?_, List.Pairwise.filter _ msn, fun x => ?_⟩
                          · rw [upd_ne D9lw]
                            exact k13 _ _ D9dm n1
                          · rw [List.mem_filter, beq_iff_eq, msm x]
                            constructor
                            · rintro ⟨⟨h1, h2⟩, h3⟩
                              exact ⟨h1, (spl x h1).trans h3⟩
                            · rintro ⟨h1, h2⟩
                              rw [spl x h1] at h2
                              refine ⟨⟨h1, ?_⟩, h2⟩
                              unfold Hop.split at h2
                              by_cases cp : x ∈ part
                              · exact pcl x cp
                              · rw [if_neg cp] at h2
                                exact h2
                        · rw [if_neg ce]
                          rcases List.mem_append.mp he with he | he
                          · obtain ⟨h1, h2, ms, h3, h4, h5⟩ := wi9.ci.mem e he
                            have elt : e.1 < kk' := by
                              have z : e.1 ∈ es'.map (·.1) := List.mem_map.mpr ⟨e, he, rfl⟩
                              rw [wi9.ci.ek] at z
                              exact List.mem_range.mp z
                            refine ⟨h1, h2, ms, keep _ _ h1 (ne_of h3 wi9.ci.dt (by intro z; cases z)) h2 h3, h4, fun x => (h5 x).trans ?_⟩
                            constructor
                            · rintro ⟨g, g'⟩
                              refine ⟨g, ?_⟩
                              rw [spl x g]
                              unfold Hop.split
                              rw [if_neg fun cp => ce (g'.symm.trans (pcl x cp))]
                              exact g'
                            · rintro ⟨g, g'⟩
                              refine ⟨g, ?_⟩
                              rw [spl x g] at g'
                              unfold Hop.split at g'
                              by_cases cp : x ∈ part
                              · rw [if_pos cp] at g'
                                omega
                              · rw [if_neg cp] at g'
                                exact g'
                          · rw [List.mem_singleton.mp he]
                            refine ⟨lC, llw, part, keep _ _ lC ldm llw hpart, pnd, fun x => ?_⟩
                            constructor
                            · intro hx
                              refine ⟨plt x hx, ?_⟩
                              rw [spl x (plt x hx)]
                              unfold Hop.split
                              rw [if_pos hx]
                            · rintro ⟨g, g'⟩
                              rw [spl x g] at g'
                              unfold Hop.split at g'
                              by_cases cp : x ∈ part
                              · exact cp
                              · rw [if_neg cp] at g'
                                exact absurd g' (fresh x g)
                      · rw [spl x hx]
                        unfold Hop.split
                        split
                        · omega
                        · have := wi9.ci.lt x hx
                          omega
                    refine ⟨setAll rows.length cs' part kk', _, kk' + 1, W' ++ [kk'], _, _, _, _, _, rfl, ⟨ci14, ?_, fun c hc => ?_, ?_, ?_, ?_⟩, ?_, ?_, keep _ _ li1 (ne_of hli9 wi9.ci.dt (by intro z; cases z)) li2 hli9, keep _ _ dC.symm ddm.symm dlw.symm frz9, fun p hp => keep _ _ (hpl p hp).2.1 (ne_of (hit9 p hp) wi9.ci.dt (by intro z; cases z)) (hpl p hp).2.2 (hit9 p hp)⟩
                    · rw [upd_same, List.map_append]; rfl
                    · rcases List.mem_append.mp hc with hc | hc
                      · have := wi9.wk c hc
                        omega
                      · rw [List.mem_singleton.mp hc]; omega
                    · refine Hop.Ref.congr spl (wi9.rf.split fresh pcl fun R r1 r2 p q' hp hq h => ?_)
                      have ec := wi2.rf.mx R r1 r2 p q' hp hq h
                      have ei := insR R r1 r2 _ _ (hd' a p ha hp) (hd' a q' ha hq) (r2 p q' h a ha)
                      have ehl : p ∈ hlist ↔ q' ∈ hlist := by
                        rw [hlm p, hlm q', ec]
                        exact ⟨fun z => ⟨⟨hq, ei.mp z.1.2⟩, z.2⟩, fun z => ⟨⟨hp, ei.mpr z.1.2⟩, z.2⟩⟩
                      rcases hor with e | e
                      · rw [e]; exact ehl
                      · rw [e, List.mem_filter, List.mem_filter, msm' p, msm' q', ec]
                        simp only [Bool.not_eq_true', decide_eq_false_iff_not]
                        exact ⟨fun z => ⟨⟨hq, z.1.2⟩, fun y => z.2 (ehl.mpr y)⟩, fun z => ⟨⟨hp, z.1.2⟩, fun y => z.2 (ehl.mp y)⟩⟩
                    · rw [pe, List.length_append]
                      show _ + (W'.length + 1) ≤ _
                      omega
                    · rw [pe]
                      have := wi9.kb
                      omega
                    · exact Hop.Jn.congr hd' spl (jn6.split hd' fresh pcl (fun c hc => List.mem_append_left _ hc) (List.mem_append_right _ (List.mem_singleton.mpr rfl)))
                    · exact Hop.Mid.congr spl (mid.split fresh hn plt pcl0 pcl phh)
              · have hge' : ms0.length ≤ hlist.length := by
                  have z : ¬ ((hlist.length : Int) < (ms0.length : Int)) := fun z => hge (decide_eq_true z)
                  omega
                have all := sub_all hlist ms0 hlnd hsub hge'
                exact ⟨cs', es', kk', W', _, _, _, v12, v13, rfl, wi7, jn6, mid.all fun x hx e => ((hlm x).mp (all x ((msm' x).mpr ⟨hx, e⟩))).1.2, hli7, frz7, hit7⟩
            · rintro σ H6 ⟨cs', es', kk', W', v4, v10, v11, v12, v13, rfl, wi6, jn6, mid, hli6, frz6, hit6⟩
              rw [List.length_map, List.take_length] at mid
              refine ⟨frz6, cs', es', kk', W', v4, some (.ref l), some (.ref d), v10, v11, v12, v13, rfl, ?_, ?_, by rw [upd_ne dli]; exact hli6⟩
              · exact wi6.upd (x := d) (.dK (refK hs)) hdS' dC.symm ddm.symm (fun p hp => by obtain ⟨_, _, ms, m3, _⟩ := wi6.ci.mem p hp; exact ne_of m3 frz6 (by intro z; cases z)) dlw.symm
              · refine jn6.drop (a0 := a) (fun a' h1 h2 => ⟨by omega, h1.2⟩) fun p q' hp hq e => ?_
                by_cases c : clsOf cs p ∈ hs.map (·.1)
                · exact mid.dn p q' hp hq e c
                · have no : ∀ y, y < rows.length → clsOf cs y = clsOf cs p → ¬ nextOf rows a y ∈ ins := fun y hy ey hh => by
                    obtain ⟨t, ht⟩ := hits.all y (mem_hit.mpr ⟨hy, hh⟩)
                    exact c (List.mem_map.mpr ⟨_, ht, ey⟩)
                  exact iff_of_false (no p hp rfl) (no q' hq (mid.ref p q' hp hq e).symm)
          · rintro σ H2 ⟨cs, es, kk, W, v4, v8, v9, v10, v11, v12, v13, rfl, wi2, jn2, hli2⟩
            rw [List.length_map, z2] at jn2
            refine ⟨cs, es, kk, W, v4, _, v8, v9, v10, v11, v12, v13, rfl, wi2, fun p q' a hp hq ha e ne => ?_⟩
            rcases jn2 p q' a hp hq ha e ne with h | h | h
            · exact .inl h
            · exact .inr (.inl h)
            · exact absurd h.1.2 (by omega)
end
end Vf

set_option Elab.async false
set_option linter.all false
set_option maxRecDepth 100000
set_option maxHeartbeats 4000000
namespace Vf
open PySem PySem.Spec PyProof.Rows L2 L2.Vx Vs
/-! ### the machine of the classes -/
def isFirst (cs : List Nat) (x : Nat) : Bool := (List.range x).all fun y => clsOf cs y != clsOf cs x
def firstsTo (cs : List Nat) (i : Nat) : List Nat := (List.range i).filter (isFirst cs)
abbrev firstsOf (cs : List Nat) : List Nat := firstsTo cs cs.length
abbrev keysOf (cs : List Nat) (i : Nat) : List Nat := (firstsTo cs i).map (clsOf cs)
def numOf (cs : List Nat) (x : Nat) : Nat := (keysOf cs cs.length).idxOf (clsOf cs x)
def quotRows (rows : List (List Nat)) (cs : List Nat) : List (List Nat) := (firstsOf cs).map fun s => (rowOf rows s).map fun t => numOf cs t
theorem firstsTo_succ (cs : List Nat) (i : Nat) : firstsTo cs (i + 1) = if isFirst cs i = true then firstsTo cs i ++ [i] else firstsTo cs i := by
  unfold firstsTo
  rw [List.range_succ, List.filter_append, List.filter_cons]
  split
  · rfl
  · rw [List.filter_nil, List.append_nil]
theorem first_has (cs : List Nat) (i : Nat) : ∀ y, y < i → ∃ x ∈ firstsTo cs i, clsOf cs x = clsOf cs y ∧ x ≤ y := by
  intro y
  induction y using Nat.strongRecOn with
  | ind y ih =>
    intro hy
    by_cases c : isFirst cs y = true
    · exact ⟨y, List.mem_filter.mpr ⟨List.mem_range.mpr hy, c⟩, rfl, Nat.le_refl _⟩
    · have c' : ¬ ∀ z ∈ List.range y, (clsOf cs z != clsOf cs y) = true := fun h => c (List.all_eq_true.mpr h)
      obtain ⟨z, hz, e⟩ : ∃ z, z < y ∧ clsOf cs z = clsOf cs y := Classical.byContradiction fun h => c' fun z hz => by
        rw [bne_iff_ne]
        exact fun e => h ⟨z, List.mem_range.mp hz, e⟩
      obtain ⟨x, h1, h2, h3⟩ := ih z hz (by omega)
      exact ⟨x, h1, h2.trans e, by omega⟩
theorem isFirst_iff (cs : List Nat) (i : Nat) : isFirst cs i = !decide (clsOf cs i ∈ keysOf cs i) := by
  by_cases c : clsOf cs i ∈ keysOf cs i
  · rw [decide_eq_true c]
    obtain ⟨x, hx, e⟩ := List.mem_map.mp c
    have hx' := List.mem_range.mp (List.mem_filter.mp hx).1
    cases h : isFirst cs i with
    | false => rfl
    | true =>
      have z := List.all_eq_true.mp h x (List.mem_range.mpr hx')
      rw [e] at z
      simp at z
  · rw [decide_eq_false c]
    refine List.all_eq_true.mpr fun y hy => ?_
    rw [bne_iff_ne]
    intro e
    obtain ⟨x, h1, h2, _⟩ := first_has cs i y (List.mem_range.mp hy)
    exact c (List.mem_map.mpr ⟨x, h1, h2.trans e⟩)
theorem keys_nodup (cs : List Nat) : ∀ i, (keysOf cs i).Nodup
  | 0 => List.nodup_nil
  | i + 1 => by
    unfold keysOf
    rw [firstsTo_succ]
    split
    · rename_i h
      rw [isFirst_iff] at h
      have h' : clsOf cs i ∉ keysOf cs i := by simpa using h
      rw [List.map_append]
      exact List.nodup_append.mpr ⟨keys_nodup cs i, by simp, fun a ha b hb e => h' (by rw [List.mem_map] at hb; obtain ⟨z, hz, rfl⟩ := hb; rw [List.mem_singleton.mp hz] at e; rw [← e]; exact ha)⟩
    · exact keys_nodup cs i
theorem numK_snoc (o : List Nat) (c : Nat) : numK (o ++ [c]) = numK o ++ [((Sum.inl ((c : Nat) : Int) : Key), nI o.length)] := by
  unfold numK
  rw [List.length_append]
  show (List.range (o.length + 1)).map _ = _
  rw [List.range_succ, List.map_append]
  congr 1
  · refine List.map_congr_left fun i hi => ?_
    have hi' := List.mem_range.mp hi
    rw [List.getD_eq_getElem?_getD, List.getD_eq_getElem?_getD, List.getElem?_append_left hi']
  · show [((Sum.inl ((((o ++ [c]).getD o.length 0 : Nat)) : Int) : Key), nI o.length)] = _
    rw [List.getD_eq_getElem?_getD, List.getElem?_append_right (Nat.le_refl _)]
    simp
theorem num_none {o : List Nat} {t : Nat} (h : t ∉ o) : valV (numK o) (Sum.inl (t : Int)) = none :=
  valV_none (keyAt o) (fun i => nI i) _ (List.range o.length) fun i hi e => by
    have hi' := List.mem_range.mp hi
    have z := Sum.inl.inj e
    have z2 : o.getD i 0 = t := by omega
    exact h (z2 ▸ List.mem_of_getElem? (getD_at hi'))
abbrev sLeast : Stmt := top 24
def spLeast (K : PySem.W.Frag) : Sp := fun vs H Q _ => ∃ (v e : V) (rows : List (List Nat)) (ends : List Nat) (k : Nat), vs = [v, e] ∧ RowsAt K H v rows ∧ TupN K H e ends ∧ Square rows k ∧ (∀ x ∈ ends, x < rows.length) ∧
  ∀ t a b cs H', Same H H' → H t = none → H' t = some (.tup [a, b]) → cs.length = (renum rows (reach rows 0)).length →
    Hop.Ref (renum rows (reach rows 0)).length k (nextOf (renum rows (reach rows 0))) (fun x => x ∈ endsAt (reach rows 0) ends) (clsOf cs) →
    (∀ p q a, p < (renum rows (reach rows 0)).length → q < (renum rows (reach rows 0)).length → a < k → clsOf cs p = clsOf cs q → clsOf cs (nextOf (renum rows (reach rows 0)) a p) = clsOf cs (nextOf (renum rows (reach rows 0)) a q)) →
    RowsAt K H' a (quotRows (renum rows (reach rows 0)) cs) → TupN K H' b (endsAt (firstsOf cs) (endsAt (reach rows 0) ends)) → Q (.ref t) H'
theorem renum_square {rows : List (List Nat)} {k : Nat} (sq : Square rows k) : Square (renum rows (reach rows 0)) k := by
  have R := reached sq.inn sq.some
  have lo : (reach rows 0).length ≤ rows.length := nodup_lt _ _ R.nd R.lt
  have l1 : (renum rows (reach rows 0)).length = (reach rows 0).length := List.length_map _
  refine ⟨?_, ?_, fun r hr => ?_, sq.thin, fun r hr t ht => ?_⟩
  · rw [l1]
    exact (List.getElem?_eq_some_iff.mp R.first).1
  · rw [l1]
    exact Nat.le_trans lo sq.few
  · obtain ⟨s, hs, rfl⟩ := List.mem_map.mp hr
    rw [List.length_map]
    exact sq.wide _ (List.mem_of_getElem? (rowOf_at (R.lt s hs)))
  · obtain ⟨s, hs, rfl⟩ := List.mem_map.mp hr
    obtain ⟨u, hu, rfl⟩ := List.mem_map.mp ht
    rw [l1]
    exact List.idxOf_lt_length_of_mem (R.closed s hs u hu)
section
variable {P : Program} {w : World} {K : PySem.W.Frag} {mg : Str → Option Value} {base : Heap}
abbrev nLeast : List Str := ["rows", "ends", "classes", "numbers", "firsts", "state", "found", "flags", "new_rows", "target", "number"]
abbrev scIn2 : Scope := { kind := .function, names := [(".0", .local), ("state", .local), ("tuple", .globalImplicit), ("classes", .cell), ("numbers", .cell), ("rows", .cell)], isGenerator := false, isCoroutine := false, more := [] }
theorem scLeast : FnScope nLeast ["rows", "ends"] (defScope sLeast) := ⟨rfl, rfl, rfl, by decide +kernel, rfl, by decide +kernel, by decide +kernel⟩
theorem ok_least {f fF fT fC : Addr} {fd fdF fdT fdC : FuncData} (F : Fun K "least_machine" "least_machine" sLeast f fd) (T : TxtM mg)
    (GF : FnOk P w K mg base CX0 1 fF fdF ["many", "ends"] (spFlags K)) (bF : Binds K fdF ["many", "ends"] []) (kF : PySem.W.keepIn K (.ref fF) = true) (mF : mg "end_flags" = some (.ref fF))
    (GT : FnOk P w K mg base CX0 2 fT fdT ["rows", "ends", "start"] (spStarted K)) (bT : Binds K fdT ["rows", "ends", "start"] []) (kT : PySem.W.keepIn K (.ref fT) = true) (mT : mg "started_at" = some (.ref fT))
    (GC : FnOk P w K mg base CX0 2 fC fdC ["rows", "ends"] (spCls K)) (bC : Binds K fdC ["rows", "ends"] []) (kC : PySem.W.keepIn K (.ref fC) = true) (mC : mg "classes_of" = some (.ref fC)) :
    FnOk P w K mg base CX0 3 f fd ["rows", "ends"] (spLeast K) := by
  refine F.ok scLeast (fun vs H Q E h => ?_) (fun cdv A outer s H vs Q E hr h => ?_)
  · obtain ⟨v, e, rows, ends, k, rfl, _⟩ := h
    rfl
  obtain ⟨v, e, rows, ends, k, rfl, hR, hE, sq, hel, q⟩ := h
  have hu := hu_of hr
  have hr1 : Room 1 _ := hr.mono (by decide)
  refine ⟨_, pss_cons (ps_asg (pe_call GT hr rfl mT kT bT .nil pass0 (pa_cons (pv 0) (pa_cons (pv 1) (pa_cons pe_int pa_nil)))) (pg_tup rfl (pgs_cons (pg_name (i := 0) scLeast.nd rfl (Or.inr rfl)) (pgs_cons (pg_name (i := 1) scLeast.nd rfl (Or.inl rfl)) pgs_nil))))
    (pss_cons (ps_set (i := 2) scLeast.nd rfl (Or.inr rfl) (pe_call GC hr rfl mC kC bC .nil pass0 (pa_cons (pv 0) (pa_cons (pv 1) pa_nil))))
    (pss_cons (ps_set (i := 3) scLeast.nd rfl (Or.inr rfl) pe_dnewK)
    (pss_cons (ps_set (i := 4) scLeast.nd rfl (Or.inl rfl) (pe_lst pa_nil))
    (pss_cons (ps_for PassesOwn.never rfl (pi_enum (by rfl) T.enu (pa_cons (pv 2) pa_nil)) (pg_tup rfl (pgs_cons (pg_name (i := 5) scLeast.nd rfl (Or.inl rfl)) (pgs_cons (pg_name (i := 6) scLeast.nd rfl (Or.inl rfl)) pgs_nil)))
      (pss_one (ps_if (pt_cmp (pc_dnotin hu (pv 6) (pv 3))) (pss_cons (ps_dput hu (pv 3) (pv 6) (pe_callB call_len_seq (by rfl) T.len PySem.boot_len (pa_cons (pv 4) pa_nil)) rfl)
        (pss_one (ps_expr (pe_bm PySem.F.plainAttrs_list PySem.F.slot_list_append PySem.F.type_list_append mt_append (pv 4) (pa_cons (pv 5) pa_nil))))) pss_nil)))
    (pss_cons (ps_set (i := 7) scLeast.nd rfl (Or.inr rfl) (pe_call GF hr1 rfl mF kF bF .nil pass0 (pa_cons (pe_callB call_len_seq (by rfl) T.len PySem.boot_len (pa_cons (pv 0) pa_nil)) (pa_cons (pv 1) pa_nil))))
    (pss_cons (ps_set (i := 8) scLeast.nd rfl (Or.inl rfl) (pe_callTy call_tuple_of (by rfl) T.tuple (by decide +kernel) (pa_cons (pe_lc (own := [("state", 5)]) (g := gName 5) (tt := tYes) rfl scLeast.nd (pi_list (pv 4))
        (blkOk_by (N := nLeast) (sc := defScope sLeast) (by decide +kernel)) (fun _ _ _ _ _ => pg_name (i := 5) scLeast.nd rfl (Or.inl rfl)) (fun _ _ _ _ _ => pts_nil)
        (fun _ _ _ _ _ => by exact pe_callTy (tupOf_at (K := K) rfl) (by rfl) T.tuple (by decide +kernel) (pa_cons (pe_lc (own := [("target", 9)]) (g := gName 9) (tt := tYes) rfl scLeast.nd (piT_at (K := K) rfl (pe_ix (ixT_at (K := K) rfl) (pv 0) (pv 5) (fun _ _ => rfl)))
          (blkOk_by (N := nLeast) (sc := scIn2) (by decide +kernel)) (fun _ _ _ _ _ => pg_name (i := 9) scLeast.nd rfl (Or.inl rfl)) (fun _ _ _ _ _ => pts_nil)
          (fun _ _ _ _ _ => by exact pe_dget hu (pv 3) (pe_ix (ixL_at (K := K) rfl) (pv 2) (pv 9) (fun _ _ => rfl)) (fun _ _ => rfl))) pa_nil))) pa_nil)))
    (pss_one (ps_ret (pe_tup (pa_cons (pv 8) (pa_cons (pe_callTy call_tuple_of (by rfl) T.tuple (by decide +kernel) (pa_cons (pe_lc (own := [("number", 10), ("state", 5)]) (g := gTup K 2 (gCons (gName 10) (gCons (gName 5) gNil))) rfl scLeast.nd (pi_enum (by rfl) T.enu (pa_cons (pv 4) pa_nil))
        (blkOk_by (N := nLeast) (sc := defScope sLeast) (by decide +kernel)) (fun _ _ _ _ _ => by exact (pg_tup rfl (pgs_cons (pg_name (i := 10) scLeast.nd rfl (Or.inl rfl)) (pgs_cons (pg_name (i := 5) scLeast.nd rfl (Or.inl rfl)) pgs_nil))))
        (fun _ _ _ _ _ => by exact pts_one (pt_val (pe_ix (ixL_at (K := K) rfl) (pv 7) (pv 5) (fun _ _ => rfl)))) (fun _ _ _ _ _ => by exact pv 10)) pa_nil)) pa_nil))))))))))), ?_⟩
  have sq1 := renum_square sq
  have l1 : (renum rows (reach rows 0)).length = (reach rows 0).length := List.length_map _
  have hel1 : ∀ x ∈ endsAt (reach rows 0) ends, x < (renum rows (reach rows 0)).length := fun x hx => by
    rw [l1]
    exact List.mem_range.mp (List.mem_filter.mp hx).1
  have end1 : (endsAt (reach rows 0) ends).Nodup := List.Pairwise.filter _ List.nodup_range
  have thin := sq.thin
  refine ⟨_, rfl, _, rfl, v, e, rows, ends, 0, rfl, hR, hE, sq.inn, hel, sq.some, sq.few, fun r hr => by rw [sq.wide r hr]; omega, fun t0 a1 b1 H1 s1 ht0 e1 hR1 hE1 => ?_⟩
  generalize renum rows (reach rows 0) = rows1 at *
  generalize endsAt (reach rows 0) ends = ends1 at *
  refine ⟨t0, _, rfl, SqT.of e1, rfl, _, _, rfl, _, _, rfl, rfl, ?_⟩
  refine ⟨_, rfl, _, rfl, a1, b1, rows1, ends1, k, rfl, hR1, hE1, sq1, hel1, end1, fun lc cs H2 s2 hlc ec cn rf stable => ?_⟩
  have few1 := sq1.few
  intro dn hdn
  have sd := same_new hdn (.dK [])
  have ed : upd H2 dn (.dK []) dn = some (.dK []) := upd_same
  show gName 3 _ _ (upd H2 dn (.dK [])) _
  generalize upd H2 dn (.dK []) = H3 at sd ed ⊢
  refine ⟨Nat.zero_le _, fun lf hlf => ?_⟩
  have sf := same_new hlf (.lst [])
  have ef : upd H3 lf (.lst []) lf = some (.lst []) := upd_same
  have ed' := sf _ _ ed
  have hlfH : H2 lf = none := sd.free hlf
  have hdlf : dn ≠ lf := ne_of_none ed hlf
  have s3 := sd.trans sf
  show gName 4 _ _ (upd H3 lf (.lst [])) _
  generalize upd H3 lf (.lst []) = H4 at ef ed' s3 ⊢
  clear sd sf ed
  have kd := fun i => keys_nodup cs i
  have kl : ∀ i, (keysOf cs i).length = (firstsTo cs i).length := fun i => List.length_map _
  have fl : ∀ i, (firstsTo cs i).length ≤ i := fun i => by
    unfold firstsTo
    have z := List.length_filter_le (isFirst cs) (List.range i)
    rw [List.length_range] at z
    exact z
  have hs : ∀ (o : List Nat) (t : Nat), o.Nodup → (valV (numK o) (Sum.inl (t : Int))).isSome = decide (t ∈ o) := fun o t nd => by
    by_cases c : t ∈ o
    · rw [num_at nd c, decide_eq_true c]; rfl
    · rw [num_none c, decide_eq_false c]; rfl
  refine ⟨_, rfl, lc, _, rfl, SqL.of (s3 _ _ ec), ?_⟩
  refine for_it (walk_enum (xs := cs.map nI)) (fun i σ H' => ∃ v5 v6 : Option V, σ = [some a1, some b1, some (.ref lc), some (.ref dn), some (.ref lf), v5, v6, none, none, none, none] ∧ H' dn = some (.dK (numK (keysOf cs i))) ∧ H' lf = some (.lst ((firstsTo cs i).map nI)) ∧ Same H2 H')
    ⟨none, none, rfl, ed', ef, s3⟩ (fun i σ H' _ ⟨_, _, _, _, _, s⟩ => s.seq (SqL.of ec)) ?_ ?_
  · rintro i x σ H5 H6 hi ⟨v5, v6, rfl, k1, k2, k3⟩ ⟨T1, x1, y1, rfl, hT, rfl, e1', e2⟩
    obtain rfl : V.int (i : Nat) = x1 := Option.some.inj e1'
    rw [List.length_map] at hi
    have e2' : some (nI (clsOf cs i)) = some y1 := by
      have z : (cs.map nI)[i]? = some y1 := e2
      rw [List.getElem?_map, getD_at hi] at z
      exact z
    obtain rfl : nI (clsOf cs i) = y1 := Option.some.inj e2'
    have sT := same_new hT (.tup [V.int (i : Nat), nI (clsOf cs i)])
    refine ⟨T1, _, rfl, SqT.of upd_same, rfl, _, _, rfl, _, _, rfl, rfl, ?_⟩
    have k1' := sT _ _ k1
    have k2' := sT _ _ k2
    have k3' := k3.trans sT
    show tIfS _ _ _ _ _ (upd H5 T1 (.tup [V.int (i : Nat), nI (clsOf cs i)]))
    generalize upd H5 T1 (.tup [V.int (i : Nat), nI (clsOf cs i)]) = H7 at k1' k2' k3' ⊢
    refine ⟨_, rfl, _, rfl, dn, _, rfl, DGet.k (k := Sum.inl (clsOf cs i : Int)) k1', _, rfl, ?_⟩
    rw [hs _ _ (kd i)]
    have big : (firstsTo cs i).length < sizeLine := Nat.lt_of_le_of_lt (fl i) (by rw [cn] at hi; exact Nat.lt_of_lt_of_le hi (Nat.le_trans few1 (by decide)))
    by_cases c : clsOf cs i ∈ keysOf cs i
    · rw [decide_eq_true c]
      have hf : isFirst cs i = false := by rw [isFirst_iff, decide_eq_true c]; rfl
      have n1 : firstsTo cs (i + 1) = firstsTo cs i := by rw [firstsTo_succ, if_neg (by rw [hf]; exact Bool.false_ne_true)]
      refine ⟨_, _, rfl, ?_, ?_, k3'⟩
      · unfold keysOf
        rw [n1]
        exact k1'
      · rw [n1]
        exact k2'
    · rw [decide_eq_false c]
      have hf : isFirst cs i = true := by rw [isFirst_iff, decide_eq_false c]; rfl
      have n1 : firstsTo cs (i + 1) = firstsTo cs i ++ [i] := by rw [firstsTo_succ, if_pos hf]
      refine ⟨_, rfl, lf, _, rfl, .inl (SqL.of k2'), _, rfl, _, rfl, dn, _, rfl, DPut.k (k := Sum.inl (clsOf cs i : Int)) k1' (by unfold numK; rw [List.length_map, List.length_range, kl]; exact big), ?_⟩
      rw [putK_new _ (num_none c), List.length_map]
      have k2'' : upd H7 dn (.dK (numK (keysOf cs i) ++ [((Sum.inl ((clsOf cs i : Nat) : Int) : Key), V.int ((firstsTo cs i).length : Int))])) lf = some (.lst ((firstsTo cs i).map nI)) := by rw [upd_ne hdlf.symm]; exact k2'
      refine ⟨_, rfl, .inl ⟨rfl, _, SqL.of k2''⟩, _, rfl, lf, _, _, rfl, rfl, k2'', by rw [List.length_map]; exact big, _, _, rfl, ?_, ?_, fun b u e' => ?_⟩
      · rw [upd_ne hdlf, upd_same]
        unfold keysOf
        rw [n1, List.map_append, List.map_cons, List.map_nil, numK_snoc, ← kl i]
      · rw [upd_same, n1, List.map_append]
        rfl
      · rw [upd_ne (ne_of_none e' hlfH), upd_ne (ne_of_none e' hdn)]
        exact k3' b u e'
  · rintro σ H5 ⟨v5, v6, rfl, k1, k2, k3⟩
    rw [List.length_map] at k1 k2
    have s5 : Same H1 H5 := s2.trans k3
    have hR5 := hR1.same s5
    have hE5 := hE1.same s5
    have elc := k3 _ _ ec
    obtain ⟨va, bs, rfl, hva, hbl, hrows⟩ := id hR5
    have fn : ∀ x ∈ firstsOf cs, x < rows1.length := fun x hx => by
      rw [← cn]
      exact List.mem_range.mp (List.mem_filter.mp hx).1
    have keym : ∀ t, t < rows1.length → clsOf cs t ∈ keysOf cs cs.length := fun t ht => by
      obtain ⟨x, h1, h2, _⟩ := first_has cs cs.length t (by rw [cn]; exact ht)
      exact List.mem_map.mpr ⟨x, h1, h2⟩
    have item : ∀ {i : Nat} {y : V}, ((firstsOf cs).map nI)[i]? = some y → ∃ h : i < (firstsOf cs).length, y = nI ((firstsOf cs).getD i 0) := fun {i y} e => by
      rw [List.getElem?_map] at e
      obtain ⟨t, ht, rfl⟩ := Option.map_eq_some_iff.mp e
      have hi := (List.getElem?_eq_some_iff.mp ht).1
      rw [getD_at hi] at ht
      exact ⟨hi, by rw [Option.some.inj ht]⟩
    have lo2 : (firstsOf cs).length < sizeLine := Nat.lt_of_le_of_lt (fl _) (by rw [cn]; exact Nat.lt_of_le_of_lt few1 (by decide))
    refine ⟨_, rfl, va, _, rfl, .inr hva, _, rfl, rows1.length, b1, ends1, by rw [hbl]; rfl, hE5, hel1, by omega, fun lg H6 s6 hlg g6 => ?_⟩
    have hR6 := hR5.same s6
    have kD := s6 _ _ k1
    have gl := s6 _ _ k2
    have elc6 := s6 _ _ elc
    refine ⟨_, rfl, lf, rfl, ⟨_, SqL.of gl⟩, fun D2 hD2 => ?_⟩
    have lr : (quotRows rows1 cs).length = (firstsOf cs).length := List.length_map _
    have getR : ∀ i, i < (firstsOf cs).length → (quotRows rows1 cs).getD i [] = (rowOf rows1 ((firstsOf cs).getD i 0)).map fun t => numOf cs t := fun i hi => by
      rw [List.getD_eq_getElem?_getD, show (quotRows rows1 cs)[i]? = some ((rowOf rows1 ((firstsOf cs).getD i 0)).map fun t => numOf cs t) by unfold quotRows; rw [List.getElem?_map, getD_at hi]; rfl]
      rfl
    refine lc_it (walk_list (xs := (firstsOf cs).map nI)) (fun i H' => ∃ ts : List Addr, H' D2 = some (.lst (ts.map V.ref)) ∧ ts.length = i ∧ (∀ (j : Nat) (t : Addr), ts[j]? = some t → H' t = some (.tup (((quotRows rows1 cs).getD j []).map nI))) ∧ Same H6 H')
      ⟨[], upd_same, rfl, (fun j t z => nomatch z), same_new hD2 _⟩ (fun i H' _ ⟨_, _, _, _, s⟩ => s.seq (SqL.of gl)) ?_ ?_
    · rintro i x H7 H8 hi ⟨ts, m1, m2, m3, m4⟩ ⟨rfl, hx⟩
      obtain ⟨hio, rfl⟩ := item hx
      have hmem : (firstsOf cs).getD i 0 ∈ firstsOf cs := List.mem_of_getElem? (getD_at hio)
      have hst := fn _ hmem
      obtain ⟨a', bs', b, ea, ha', hbs', hrow⟩ := hR6.row hst
      cases ea
      have hwid : (rowOf rows1 ((firstsOf cs).getD i 0)).length ≤ 1000 := by
        rw [sq1.wide _ (List.mem_of_getElem? (rowOf_at hst))]
        omega
      refine ⟨rfl, _, rfl, _, rfl, va, bs', _, .ref b, rfl, rfl, same_T m4 ha', atI_nat hbs', b, rfl, ⟨_, same_T m4 hrow⟩, fun D3 hD3 => ?_⟩
      refine lc_it (walk_tup (xs := (rowOf rows1 ((firstsOf cs).getD i 0)).map nI)) (fun j H' => H' D3 = some (.lst (((rowOf rows1 ((firstsOf cs).getD i 0)).take j).map fun t => nI (numOf cs t))) ∧ Same H8 H') ⟨upd_same, same_new hD3 _⟩ (fun j H' _ ⟨_, s⟩ => same_T s (same_T m4 hrow)) ?_ ?_
      · rintro j y H9 H10 hj ⟨n1, n2⟩ ⟨rfl, hy⟩
        rw [List.getElem?_map] at hy
        obtain ⟨t, ht, rfl⟩ := Option.map_eq_some_iff.mp hy
        have htn := rowOf_mem sq1.inn t (List.mem_of_getElem? ht)
        have hct : cs[t]? = some (clsOf cs t) := getD_at (by rw [cn]; exact htn)
        refine ⟨rfl, _, rfl, _, rfl, _, rfl, lc, _, _, nI (clsOf cs t), rfl, rfl, SqL.of (n2 _ _ (m4 _ _ elc6)), atI_nat (by rw [List.getElem?_map, hct]; rfl), dn, nI (numOf cs t), rfl, ?_, _, n1, ?_, ?_, fun b' u e' => ?_⟩
        · have z := num_at (kd cs.length) (keym t htn)
          unfold numOf
          rw [← z]
          exact DGet.k (k := Sum.inl (clsOf cs t : Int)) (n2 _ _ (m4 _ _ kD))
        · rw [List.length_map]
          exact Nat.lt_of_le_of_lt (List.length_take_le' _ _) (Nat.lt_of_le_of_lt hwid (by decide))
        · rw [upd_same, List.take_add_one, ht, List.map_append]
          rfl
        · rw [upd_ne (ne_of_none e' hD3)]
          exact n2 b' u e'
      · rintro H9 ⟨n1, n2⟩
        rw [List.length_map, List.take_length] at n1
        refine ⟨D3, _, rfl, .inl ⟨SqL.of n1, fun t ht => ?_⟩⟩
        have sT := same_new ht (.tup ((rowOf rows1 ((firstsOf cs).getD i 0)).map fun t => nI (numOf cs t)))
        have hD26 : H9 D2 = some (.lst (ts.map V.ref)) := n2 _ _ m1
        refine ⟨_, sT _ _ hD26, by rw [List.length_map, m2]; omega, ts ++ [t], by rw [upd_same, List.map_append]; rfl, by rw [List.length_append, m2]; rfl, fun j u hj => ?_, fun b' u e' => ?_⟩
        · rcases Nat.lt_or_ge j ts.length with c | c
          · rw [List.getElem?_append_left c] at hj
            have z := sT _ _ (n2 _ _ (m3 j u hj))
            rw [upd_ne (ne_of z (sT _ _ hD26) (by intro z; cases z))]
            exact z
          · rw [List.getElem?_append_right c] at hj
            have c0 : j - ts.length = 0 := by
              rcases Nat.eq_zero_or_pos (j - ts.length) with w | w
              · exact w
              · rw [List.getElem?_eq_none (by simp; omega)] at hj
                exact nomatch hj
            rw [c0] at hj
            obtain rfl : t = u := Option.some.inj hj
            obtain rfl : j = i := by omega
            rw [upd_ne (ne_of_none hD26 ht).symm, upd_same, getR j hio, List.map_map]
            rfl
        · rw [upd_ne (ne_of_none e' hD2)]
          exact sT _ _ (n2 _ _ (m4 b' u e'))
    · rintro H7 ⟨ts, m1, m2, m3, m4⟩
      rw [List.length_map] at m2
      refine ⟨D2, _, rfl, .inl ⟨SqL.of m1, fun tr htr => ?_⟩⟩
      have s4 := same_new htr (.tup (ts.map V.ref))
      have etr : upd H7 tr (.tup (ts.map V.ref)) tr = some (.tup (ts.map V.ref)) := upd_same
      have m3' := fun j t hj => s4 _ _ (m3 j t hj)
      have s34 := m4.trans s4
      show gName 8 _ _ (upd H7 tr (.tup (ts.map V.ref))) _
      generalize upd H7 tr (.tup (ts.map V.ref)) = H8 at s4 etr m3' s34 ⊢
      refine ⟨_, rfl, _, rfl, lf, _, rfl, SqL.of (s34 _ _ gl), fun D4 hD4 => ?_⟩
      refine lc_it walk_enum (fun i H' => H' D4 = some (.lst (((List.range i).filter fun j => decide ((firstsOf cs).getD j 0 ∈ ends1)).map nI)) ∧ Same H8 H') ⟨upd_same, same_new hD4 _⟩ (fun i H' _ ⟨_, s⟩ => s.seq (SqL.of (s34 _ _ gl))) ?_ ?_
      · rintro i x H9 H10 hi ⟨n1, n2⟩ ⟨T1, x1, y1, rfl, hT, rfl, e1', e2⟩
        obtain rfl : V.int (i : Nat) = x1 := Option.some.inj e1'
        obtain ⟨hio, rfl⟩ := item e2
        have hmem : (firstsOf cs).getD i 0 ∈ firstsOf cs := List.mem_of_getElem? (getD_at hio)
        have n1' := (upd_ne (o := .tup [V.int (i : Nat), nI ((firstsOf cs).getD i 0)]) (ne_of_none n1 hT)).trans n1
        have n2' := n2.trans (same_new hT (.tup [V.int (i : Nat), nI ((firstsOf cs).getD i 0)]))
        have hfl : ((flagsOf rows1.length ends1).map V.bl)[(firstsOf cs).getD i 0]? = some (.bl (decide ((firstsOf cs).getD i 0 ∈ ends1))) := by
          unfold flagsOf
          rw [List.getElem?_map, List.getElem?_map, List.getElem?_range (fn _ hmem)]
          rfl
        refine ⟨T1, _, rfl, SqT.of upd_same, rfl, _, _, rfl, _, _, rfl, rfl, rfl, _, rfl, _, rfl, lg, _, _, _, rfl, rfl, SqL.of (n2' _ _ (s34 _ _ g6)), atI_nat hfl, _, rfl, ?_⟩
        generalize upd H9 T1 (.tup [V.int (i : Nat), nI ((firstsOf cs).getD i 0)]) = H11 at n1' n2' ⊢
        refine ite2 (fun c => ⟨_, rfl, _, n1', ?_, ?_, fun b u e => ?_⟩) (fun c => ⟨?_, n2'⟩)
        · rw [List.length_map]
          refine Nat.lt_of_le_of_lt (List.length_filter_le _ _) ?_
          rw [List.length_range]
          omega
        · rw [upd_same, List.range_succ, List.filter_append, List.map_append]
          rw [show ([i].filter fun j => decide ((firstsOf cs).getD j 0 ∈ ends1)) = [i] by rw [List.filter_cons]; rw [if_pos c]; rfl]
          rfl
        · rw [upd_ne (ne_of_none e hD4)]
          exact n2' b u e
        · rw [n1', List.range_succ, List.filter_append]
          rw [show ([i].filter fun j => decide ((firstsOf cs).getD j 0 ∈ ends1)) = [] by rw [List.filter_cons]; rw [if_neg c]; rfl]
          rw [List.append_nil]
      · rintro H9 ⟨n1, n2⟩
        rw [List.length_map] at n1
        refine ⟨D4, _, rfl, .inl ⟨SqL.of n1, fun te hte => ⟨(by show 2 ≤ sizeLine; decide), fun t ht => ?_⟩⟩⟩
        have s7 := n2.trans (same_new hte (.tup ((endsAt (firstsOf cs) ends1).map nI)))
        have s8 := s7.trans (same_new ht (.tup [.ref tr, .ref te]))
        have base2 := (s1.trans s5).trans (s6.trans s34)
        refine q t (.ref tr) (.ref te) cs _ (base2.trans s8) ((base2.trans s7).free ht) upd_same cn rf stable ⟨tr, ts.map V.ref, rfl, .inl (.inl (s8 _ _ etr)), by rw [List.length_map, m2, lr], fun j b r h1 h2 => ?_⟩ ⟨te, rfl, .inl (.inl ?_)⟩
        · rw [List.getElem?_map] at h1
          obtain ⟨u, hu', rfl⟩ := Option.map_eq_some_iff.mp h1
          refine ⟨u, rfl, .inl (.inl ?_)⟩
          have z := s8 _ _ (m3' j u hu')
          rw [List.getD_eq_getElem?_getD, h2] at z
          exact z
        · exact same_new ht _ _ _ upd_same
end
end Vf

set_option Elab.async false
set_option linter.all false
set_option maxRecDepth 100000
set_option maxHeartbeats 4000000
namespace Vf
open PySem PySem.Spec PyProof.Rows L2 L2.Vx Vs
/-! ### the least machine has the same language -/
/-- the state to which letters (told by their places) lead -/
def led (rows : List (List Nat)) (w : List Nat) (s : Nat) : Nat := w.foldl (fun s a => nextOf rows a s) s
theorem led_cons (rows : List (List Nat)) (a : Nat) (w : List Nat) (s : Nat) : led rows (a :: w) s = led rows w (nextOf rows a s) := rfl
theorem next_lt {rows : List (List Nat)} {k a s : Nat} (sq : Square rows k) (ha : a < k) (hs : s < rows.length) : nextOf rows a s < rows.length := rowOf_mem sq.inn _ (List.mem_of_getElem? (next_at hs fun r hr => by rw [sq.wide r hr]; exact ha))
theorem led_lt {rows : List (List Nat)} {k : Nat} (sq : Square rows k) : ∀ (w : List Nat) (s : Nat), (∀ a ∈ w, a < k) → s < rows.length → led rows w s < rows.length
  | [], _, _, hs => hs
  | a :: w, s, h, hs => led_lt sq w _ (fun b hb => h b (List.mem_cons_of_mem _ hb)) (next_lt sq (h a (List.mem_cons_self ..)) hs)
theorem map_next {rows rows' : List (List Nat)} {g : Nat → Nat} {i s a : Nat} (h : rowOf rows' i = (rowOf rows s).map g) (ha : a < (rowOf rows s).length) : nextOf rows' a i = g (nextOf rows a s) := by
  unfold nextOf
  rw [h, List.getD_eq_getElem?_getD, List.getElem?_map, getD_at ha]
  rfl
theorem idx_get {o : List Nat} {s : Nat} (h : s ∈ o) : o.getD (o.idxOf s) 0 = s := by
  have hi := List.idxOf_lt_length_of_mem h
  rw [List.getD_eq_getElem?_getD, List.getElem?_eq_getElem hi]
  exact List.getElem_idxOf hi
theorem renum_row {rows : List (List Nat)} {o : List Nat} {i : Nat} (hi : i < o.length) : rowOf (renum rows o) i = (rowOf rows (o.getD i 0)).map fun t => o.idxOf t := by
  unfold rowOf renum
  rw [List.getD_eq_getElem?_getD, List.getElem?_map, getD_at hi]
  rfl
theorem quot_row {rows : List (List Nat)} {cs : List Nat} {i : Nat} (hi : i < (firstsOf cs).length) : rowOf (quotRows rows cs) i = (rowOf rows ((firstsOf cs).getD i 0)).map fun t => numOf cs t := by
  unfold quotRows
  show (List.map _ _).getD i [] = _
  rw [List.getD_eq_getElem?_getD, List.getElem?_map, getD_at hi]
  rfl
theorem width {rows : List (List Nat)} {k s : Nat} (sq : Square rows k) (hs : s < rows.length) : (rowOf rows s).length = k := sq.wide _ (List.mem_of_getElem? (rowOf_at hs))
theorem led_renum {rows : List (List Nat)} {k : Nat} (sq : Square rows k) {o : List Nat} (R : Reached rows 0 o) : ∀ (w : List Nat) (s : Nat), (∀ a ∈ w, a < k) → s ∈ o → led (renum rows o) w (o.idxOf s) = o.idxOf (led rows w s) ∧ led rows w s ∈ o
  | [], _, _, hs => ⟨rfl, hs⟩
  | a :: w, s, h, hs => by
    have ha := h a (List.mem_cons_self ..)
    have hi := List.idxOf_lt_length_of_mem hs
    have hsn := R.lt s hs
    have e : nextOf (renum rows o) a (o.idxOf s) = o.idxOf (nextOf rows a s) := map_next (rows := rows) (s := s) (g := fun t => o.idxOf t) (by rw [renum_row hi, idx_get hs]) (by rw [width sq hsn]; exact ha)
    rw [led_cons, led_cons, e]
    refine led_renum sq R w _ (fun b hb => h b (List.mem_cons_of_mem _ hb)) (R.closed s hs _ ?_)
    exact List.mem_of_getElem? (next_at hsn fun r hr => by rw [sq.wide r hr]; exact ha)
theorem num_congr {cs : List Nat} {x y : Nat} (h : clsOf cs x = clsOf cs y) : numOf cs x = numOf cs y := by
  unfold numOf
  rw [h]
theorem first_of {cs : List Nat} {t : Nat} (ht : t < cs.length) : numOf cs t < (firstsOf cs).length ∧ clsOf cs ((firstsOf cs).getD (numOf cs t) 0) = clsOf cs t := by
  have hm : clsOf cs t ∈ keysOf cs cs.length := by
    obtain ⟨x, h1, h2, _⟩ := first_has cs cs.length t ht
    exact List.mem_map.mpr ⟨x, h1, h2⟩
  have hi : numOf cs t < (firstsOf cs).length := by
    have z := List.idxOf_lt_length_of_mem hm
    rw [List.length_map] at z
    exact z
  refine ⟨hi, ?_⟩
  have z := idx_get hm
  rw [List.getD_eq_getElem?_getD, List.getElem?_map, show (firstsTo cs cs.length)[(keysOf cs cs.length).idxOf (clsOf cs t)]? = some ((firstsOf cs).getD (numOf cs t) 0) from getD_at hi] at z
  exact z
theorem led_quot {rows : List (List Nat)} {k : Nat} (sq : Square rows k) {cs : List Nat} (hc : cs.length = rows.length)
    (st : ∀ p q a, p < rows.length → q < rows.length → a < k → clsOf cs p = clsOf cs q → clsOf cs (nextOf rows a p) = clsOf cs (nextOf rows a q)) :
    ∀ (w : List Nat) (s : Nat), (∀ a ∈ w, a < k) → s < rows.length → led (quotRows rows cs) w (numOf cs s) = numOf cs (led rows w s)
  | [], _, _, _ => rfl
  | a :: w, s, h, hs => by
    have ha := h a (List.mem_cons_self ..)
    obtain ⟨hi, he⟩ := first_of (cs := cs) (t := s) (by omega)
    have hf : (firstsOf cs).getD (numOf cs s) 0 < rows.length := by
      have z : (firstsOf cs).getD (numOf cs s) 0 < cs.length := List.mem_range.mp (List.mem_filter.mp (List.mem_of_getElem? (getD_at hi))).1
      omega
    have e : nextOf (quotRows rows cs) a (numOf cs s) = numOf cs (nextOf rows a s) := by
      rw [map_next (quot_row hi) (by rw [width sq hf]; exact ha)]
      exact num_congr (st _ _ a hf hs ha he)
    rw [led_cons, led_cons, e]
    exact led_quot sq hc st w _ (fun b hb => h b (List.mem_cons_of_mem _ hb)) (next_lt sq ha hs)
theorem mem_endsAt {o ends : List Nat} {i : Nat} (hi : i < o.length) : i ∈ endsAt o ends ↔ o.getD i 0 ∈ ends := by
  unfold endsAt
  rw [List.mem_filter, List.mem_range, decide_eq_true_eq]
  exact ⟨fun z => z.2, fun z => ⟨hi, z⟩⟩
theorem num_zero {cs : List Nat} (h : 0 < cs.length) : numOf cs 0 = 0 := by
  have f0 : isFirst cs 0 = true := rfl
  have e : ∃ r, firstsOf cs = 0 :: r := by
    show ∃ r, (List.range cs.length).filter (isFirst cs) = 0 :: r
    obtain ⟨n, hn⟩ : ∃ n, cs.length = n + 1 := ⟨cs.length - 1, by omega⟩
    rw [hn, List.range_succ_eq_map, List.filter_cons, if_pos f0]
    exact ⟨_, rfl⟩
  obtain ⟨r, e⟩ := e
  unfold numOf keysOf
  rw [show firstsTo cs cs.length = 0 :: r from e, List.map_cons, List.idxOf_cons]
  simp
/-- the parts of the least machine, as least_machine makes them -/
theorem least_same {rows : List (List Nat)} {k : Nat} (sq : Square rows k) {ends cs : List Nat} (hc : cs.length = (renum rows (reach rows 0)).length)
    (rf : Hop.Ref (renum rows (reach rows 0)).length k (nextOf (renum rows (reach rows 0))) (fun x => x ∈ endsAt (reach rows 0) ends) (clsOf cs))
    (st : ∀ p q a, p < (renum rows (reach rows 0)).length → q < (renum rows (reach rows 0)).length → a < k → clsOf cs p = clsOf cs q → clsOf cs (nextOf (renum rows (reach rows 0)) a p) = clsOf cs (nextOf (renum rows (reach rows 0)) a q))
    (w : List Nat) (hw : ∀ a ∈ w, a < k) : led (quotRows (renum rows (reach rows 0)) cs) w 0 ∈ endsAt (firstsOf cs) (endsAt (reach rows 0) ends) ↔ led rows w 0 ∈ ends := by
  have R := reached sq.inn sq.some
  have sq1 := renum_square sq
  have l1 : (renum rows (reach rows 0)).length = (reach rows 0).length := List.length_map _
  have m0 : 0 ∈ reach rows 0 := List.mem_of_getElem? R.first
  have i0 : (reach rows 0).idxOf 0 = 0 := by
    have h1 := idx_get m0
    have h2 := List.idxOf_lt_length_of_mem m0
    have h3 := getD_at h2
    rw [h1, ← R.first] at h3
    obtain ⟨g1, e1⟩ := List.getElem?_eq_some_iff.mp (R.first)
    rw [List.getElem?_eq_getElem h2, List.getElem?_eq_getElem g1] at h3
    have h4 := Option.some.inj h3
    rcases Nat.eq_zero_or_pos ((reach rows 0).idxOf 0) with z | z
    · exact z
    · exact absurd h4.symm (List.pairwise_iff_getElem.mp R.nd 0 _ g1 h2 z)
  obtain ⟨e1, m1⟩ := led_renum sq R w 0 hw m0
  rw [i0] at e1
  have p0 : 0 < cs.length := by rw [hc]; exact sq1.some
  have e2 := led_quot sq1 hc st w 0 hw sq1.some
  rw [num_zero p0] at e2
  have lt1 := led_lt sq1 w 0 hw sq1.some
  rw [e2]
  obtain ⟨f1, f2⟩ := first_of (cs := cs) (t := led (renum rows (reach rows 0)) w 0) (by rw [hc]; exact lt1)
  rw [mem_endsAt f1]
  have hf : (firstsOf cs).getD (numOf cs (led (renum rows (reach rows 0)) w 0)) 0 < (renum rows (reach rows 0)).length := by
    have z : (firstsOf cs).getD (numOf cs (led (renum rows (reach rows 0)) w 0)) 0 < cs.length := List.mem_range.mp (List.mem_filter.mp (List.mem_of_getElem? (getD_at f1))).1
    omega
  rw [rf.fl _ _ hf lt1 f2, e1, mem_endsAt (List.idxOf_lt_length_of_mem m1), idx_get m1]
end Vf

set_option Elab.async false
set_option linter.all false
set_option maxRecDepth 100000
set_option maxHeartbeats 4000000
namespace Vf
open PySem PySem.Spec PyProof.Rows L2 L2.Vx
/-! ### lists without what comes again -/
def dd (l : List Nat) : List Nat := l.foldl into []
theorem dd_snoc (l : List Nat) (x : Nat) : dd (l ++ [x]) = into (dd l) x := by
  unfold dd
  rw [List.foldl_append]
  rfl
theorem dd_app (l m : List Nat) : dd (l ++ m) = m.foldl into (dd l) := by
  unfold dd
  rw [List.foldl_append]
theorem mem_into {o : List Nat} {t x : Nat} : x ∈ into o t ↔ x ∈ o ∨ x = t := by
  unfold into
  split
  · rename_i h
    constructor
    · exact .inl
    · rintro (h' | rfl)
      · exact h'
      · exact h
  · simp
theorem mem_fold {m : List Nat} : ∀ {o : List Nat} {x : Nat}, x ∈ m.foldl into o ↔ x ∈ o ∨ x ∈ m := by
  induction m with
  | nil => intro o x; simp
  | cons t r ih =>
    intro o x
    rw [List.foldl_cons, ih, mem_into, List.mem_cons, or_assoc]
theorem mem_dd {l : List Nat} {x : Nat} : x ∈ dd l ↔ x ∈ l := by
  unfold dd
  rw [mem_fold]
  simp
theorem dd_nodup (l : List Nat) : (dd l).Nodup := by
  have : ∀ (m o : List Nat), o.Nodup → (m.foldl into o).Nodup := by
    intro m
    induction m with
    | nil => exact fun o h => h
    | cons t r ih => exact fun o h => ih _ (into_nodup h)
  exact this l [] List.nodup_nil
theorem into_in {o : List Nat} {t : Nat} (h : t ∈ o) : into o t = o := if_pos h
theorem into_out {o : List Nat} {t : Nat} (h : t ∉ o) : into o t = o ++ [t] := if_neg h
theorem fold_in : ∀ {m o : List Nat}, (∀ x ∈ m, x ∈ o) → m.foldl into o = o
  | [], _, _ => rfl
  | t :: r, o, h => by
    rw [List.foldl_cons, into_in (h t (List.mem_cons_self ..))]
    exact fold_in fun x hx => h x (List.mem_cons_of_mem _ hx)
theorem fold_pre2 : ∀ (m o : List Nat), o <+: m.foldl into o
  | [], o => List.prefix_rfl
  | t :: r, o => into_pre.trans (fold_pre2 r (into o t))
theorem dd_pre (l m : List Nat) : dd l <+: dd (l ++ m) := by
  rw [dd_app]
  exact fold_pre2 m _
theorem fold_new : ∀ {m o : List Nat}, m.Nodup → (∀ x ∈ m, x ∉ o) → m.foldl into o = o ++ m
  | [], o, _, _ => by simp
  | t :: r, o, d, h => by
    obtain ⟨d1, d2⟩ := List.nodup_cons.mp d
    rw [List.foldl_cons, into_out (h t (List.mem_cons_self ..)), fold_new d2 fun x hx hm => ?_, List.append_assoc]
    · rfl
    · rcases List.mem_append.mp hm with z | z
      · exact h x (List.mem_cons_of_mem _ hx) z
      · rw [List.mem_singleton.mp z] at hx
        exact d1 hx
theorem dd_self {l : List Nat} (h : l.Nodup) : dd l = l := by
  have := fold_new (m := l) (o := []) h (fun x _ z => nomatch z)
  rw [List.nil_append] at this
  exact this
theorem snoc_ind {P : List Nat → Prop} (h0 : P []) (h : ∀ l x, P l → P (l ++ [x])) (l : List Nat) : P l := by
  rw [← List.reverse_reverse l]
  induction l.reverse with
  | nil => exact h0
  | cons x r ih =>
    rw [List.reverse_cons]
    exact h _ x ih
/-- images -/
theorem dd_map (π : Nat → Nat) (l : List Nat) : dd ((dd l).map π) = dd (l.map π) := by
  induction l using snoc_ind with
  | h0 => rfl
  | h l x ih =>
    rw [dd_snoc, List.map_append, List.map_cons, List.map_nil, dd_snoc]
    by_cases c : x ∈ dd l
    · rw [into_in c, ih, into_in (mem_dd.mpr (List.mem_map_of_mem (mem_dd.mp c)))]
    · rw [into_out c, List.map_append, List.map_cons, List.map_nil, dd_snoc, ih]
theorem dd_flat (c : List Nat) (f : Nat → List Nat) (l : List Nat) : dd (c ++ (dd l).flatMap f) = dd (c ++ l.flatMap f) := by
  induction l using snoc_ind with
  | h0 => rfl
  | h l x ih =>
    rw [dd_snoc, List.flatMap_append, List.flatMap_cons, List.flatMap_nil, List.append_nil]
    by_cases h : x ∈ dd l
    · rw [into_in h, ih, ← List.append_assoc, dd_app (c ++ l.flatMap f)]
      refine (fold_in fun y hy => mem_dd.mpr (List.mem_append_right _ (List.mem_flatMap.mpr ⟨x, mem_dd.mp h, hy⟩))).symm
    · rw [into_out h, List.flatMap_append, List.flatMap_cons, List.flatMap_nil, List.append_nil, ← List.append_assoc, ← List.append_assoc, dd_app, ih, ← dd_app]
/-! ### the order in which states are met -/
structure Met (rows : List (List Nat)) (k s : Nat) (o : List Nat) : Prop where
  fix : o = dd (s :: o.flatMap (rowOf rows))
  got : ∀ x ∈ o, ∃ w : List Nat, (∀ a ∈ w, a < k) ∧ led rows w s = x
theorem Met.nodup {rows : List (List Nat)} {k s : Nat} {o : List Nat} (h : Met rows k s o) : o.Nodup := by
  rw [h.fix]
  exact dd_nodup _
theorem Met.mem {rows : List (List Nat)} {k s : Nat} {o : List Nat} (h : Met rows k s o) {x : Nat} : x ∈ o ↔ x = s ∨ ∃ p ∈ o, x ∈ rowOf rows p := by
  have e : x ∈ o ↔ x ∈ dd (s :: o.flatMap (rowOf rows)) := by rw [← h.fix]
  rw [e, mem_dd, List.mem_cons, List.mem_flatMap]
theorem next_mem {rows : List (List Nat)} {k : Nat} {s a : Nat} (sq : Square rows k) (hs : s < rows.length) (ha : a < k) : nextOf rows a s ∈ rowOf rows s :=
  List.mem_of_getElem? (next_at hs fun r hr => by rw [sq.wide r hr]; exact ha)
theorem closed_all {rows : List (List Nat)} {k s : Nat} {o : List Nat} (sq : Square rows k) (h0 : s ∈ o) (lt : ∀ x ∈ o, x < rows.length) (cl : ∀ p ∈ o, ∀ t ∈ rowOf rows p, t ∈ o) : ∀ w : List Nat, (∀ a ∈ w, a < k) → led rows w s ∈ o := by
  intro w
  induction w using snoc_ind with
  | h0 => exact fun _ => h0
  | h w a ih =>
    intro hw
    have hi := ih fun b hb => hw b (List.mem_append_left _ hb)
    have e : led rows (w ++ [a]) s = nextOf rows a (led rows w s) := by
      unfold led
      rw [List.foldl_append]
      rfl
    rw [e]
    exact cl _ hi _ (next_mem sq (lt _ hi) (hw a (List.mem_append_right _ (List.mem_singleton.mpr rfl))))
/-- there is one such order only -/
theorem met_uniq {rows : List (List Nat)} {k s : Nat} {o o' : List Nat} (sq : Square rows k) (lt : ∀ x ∈ o, x < rows.length) (lt' : ∀ x ∈ o', x < rows.length) (h : Met rows k s o) (h' : Met rows k s o') : o = o' := by
  have key : ∀ m, o.take m = o'.take m := by
    intro m
    induction m with
    | zero => rfl
    | succ m ih =>
      have half : ∀ {p p' : List Nat}, (∀ x ∈ p, x < rows.length) → (∀ x ∈ p', x < rows.length) → Met rows k s p → Met rows k s p' → p.take m = p'.take m → dd (s :: (p.take m).flatMap (rowOf rows)) <+: p := by
        intro p p' l1 l2 m1 m2 e
        have e2 : s :: p.flatMap (rowOf rows) = (s :: (p.take m).flatMap (rowOf rows)) ++ (p.drop m).flatMap (rowOf rows) := by
          rw [List.cons_append, ← List.flatMap_append, List.take_append_drop]
        have := dd_pre (s :: (p.take m).flatMap (rowOf rows)) ((p.drop m).flatMap (rowOf rows))
        rw [← e2, ← m1.fix] at this
        exact this
      have p1 := half lt lt' h h' ih
      have p2 := half lt' lt h' h ih.symm
      rw [← ih] at p2
      generalize hX : dd (s :: (o.take m).flatMap (rowOf rows)) = X at p1 p2
      by_cases c : m < X.length
      · have t1 : o.take (m + 1) = X.take (m + 1) := by
          obtain ⟨r, hr⟩ := p1
          rw [← hr, List.take_append_of_le_length (by omega)]
        have t2 : o'.take (m + 1) = X.take (m + 1) := by
          obtain ⟨r, hr⟩ := p2
          rw [← hr, List.take_append_of_le_length (by omega)]
        rw [t1, t2]
      · -- nothing more is met
        have stop : ∀ {p : List Nat}, (∀ x ∈ p, x < rows.length) → Met rows k s p → X <+: p → p.take m = o.take m → p.length ≤ m := by
          intro p l1 m1 px e
          have hXm : ∀ x ∈ X, x ∈ p.take m := by
            intro x hx
            obtain ⟨r, hr⟩ := px
            rw [← hr, List.take_append]
            refine List.mem_append_left _ ?_
            rw [List.take_of_length_le (by omega)]
            exact hx
          have inX : ∀ y, y ∈ s :: (p.take m).flatMap (rowOf rows) → y ∈ p.take m := fun y hy => hXm y (by
            rw [← hX, ← e]
            exact mem_dd.mpr hy)
          have all : ∀ x ∈ p, x ∈ p.take m := by
            intro x hx
            obtain ⟨w, hw, rfl⟩ := m1.got x hx
            exact closed_all sq (inX s (List.mem_cons_self ..)) (fun y hy => l1 y (List.mem_of_mem_take hy)) (fun q hq t ht => inX t (List.mem_cons_of_mem _ (List.mem_flatMap.mpr ⟨q, hq, ht⟩))) w hw
          have := nodup_sub p (p.take m) m1.nodup all
          rw [List.length_take] at this
          omega
        have s1 := stop lt h p1 rfl
        have s2 := stop lt' h' p2 ih.symm
        rw [List.take_of_length_le (by omega), List.take_of_length_le (by omega)]
        rw [List.take_of_length_le s1, List.take_of_length_le s2] at ih
        exact ih
  have := key (o.length + o'.length)
  rw [List.take_of_length_le (by omega), List.take_of_length_le (by omega)] at this
  exact this
/-- the image of such an order -/
theorem met_map {A B : List (List Nat)} {k s : Nat} {o : List Nat} {π : Nat → Nat} (sqA : Square A k) (lt : ∀ x ∈ o, x < A.length) (h : Met A k s o) (hom : ∀ p ∈ o, rowOf B (π p) = (rowOf A p).map π)
    (ledB : ∀ w : List Nat, (∀ a ∈ w, a < k) → led B w (π s) = π (led A w s)) : Met B k (π s) (dd (o.map π)) := by
  refine ⟨?_, fun x hx => ?_⟩
  · have e1 : dd (o.map π) = dd ((s :: o.flatMap (rowOf A)).map π) := by
      have z := dd_map π (s :: o.flatMap (rowOf A))
      rw [← h.fix] at z
      exact z
    have e2 : (s :: o.flatMap (rowOf A)).map π = [π s] ++ (o.map π).flatMap (rowOf B) := by
      rw [List.map_cons, List.map_flatMap, List.flatMap_map]
      show π s :: _ = π s :: _
      congr 1
      rw [List.flatMap_def, List.flatMap_def]
      congr 1
      exact List.map_congr_left fun p hp => (hom p hp).symm
    have e3 := dd_flat [π s] (rowOf B) (o.map π)
    exact (e1.trans (congrArg dd e2)).trans e3.symm
  · obtain ⟨p, hp, rfl⟩ := List.mem_map.mp (mem_dd.mp hx)
    obtain ⟨w, hw, rfl⟩ := h.got p hp
    exact ⟨w, hw, ledB w hw⟩
end Vf

set_option Elab.async false
set_option linter.all false
set_option maxRecDepth 100000
set_option maxHeartbeats 1000000
namespace Vf
open PySem PySem.Spec PyProof.Rows L2 L2.Vx
/-! ### least machines, numbered as their states are met: there is just one of a language -/
theorem led_app (rows : List (List Nat)) (u v : List Nat) (s : Nat) : led rows (u ++ v) s = led rows v (led rows u s) := by
  unfold led
  rw [List.foldl_append]
theorem led_one (rows : List (List Nat)) (u : List Nat) (a s : Nat) : led rows (u ++ [a]) s = nextOf rows a (led rows u s) := by
  rw [led_app]
  rfl
structure Least (rows : List (List Nat)) (k : Nat) (ends : List Nat) : Prop where
  sq : Square rows k
  met : Met rows k 0 (List.range rows.length)
  parted : ∀ p q, p < rows.length → q < rows.length → (∀ w : List Nat, (∀ a ∈ w, a < k) → (led rows w p ∈ ends ↔ led rows w q ∈ ends)) → p = q
  ends : ends = (List.range rows.length).filter fun x => decide (x ∈ ends)
theorem row_ext {A : List (List Nat)} {k p : Nat} (sq : Square A k) (hp : p < A.length) {l : List Nat} (hl : l.length = k) (h : ∀ a, a < k → l[a]? = some (nextOf A a p)) : rowOf A p = l := by
  apply List.ext_getElem?
  intro a
  by_cases ha : a < k
  · rw [h a ha, next_at hp fun r hr => by rw [sq.wide r hr]; exact ha]
  · rw [List.getElem?_eq_none (by rw [width sq hp]; omega), List.getElem?_eq_none (by omega)]
theorem rows_ext {A B : List (List Nat)} (hn : A.length = B.length) (h : ∀ p, p < A.length → rowOf A p = rowOf B p) : A = B := by
  apply List.ext_getElem?
  intro p
  by_cases hp : p < A.length
  · rw [rowOf_at hp, rowOf_at (by omega), h p hp]
  · rw [List.getElem?_eq_none (by omega), List.getElem?_eq_none (by omega)]
theorem app_lt {k : Nat} {u v : List Nat} (hu : ∀ a ∈ u, a < k) (hv : ∀ a ∈ v, a < k) : ∀ a ∈ u ++ v, a < k := fun a ha => (List.mem_append.mp ha).elim (hu a) (hv a)
theorem one_lt {k a : Nat} (ha : a < k) : ∀ b ∈ [a], b < k := fun b hb => by rw [List.mem_singleton.mp hb]; exact ha
theorem least_uniq {A B : List (List Nat)} {k : Nat} {eA eB : List Nat} (hA : Least A k eA) (hB : Least B k eB) (same : ∀ w : List Nat, (∀ a ∈ w, a < k) → (led A w 0 ∈ eA ↔ led B w 0 ∈ eB)) : A = B ∧ eA = eB := by
  classical
  have got : ∀ p, ∃ w : List Nat, (∀ a ∈ w, a < k) ∧ (p < A.length → led A w 0 = p) := fun p => by
    by_cases hp : p < A.length
    · obtain ⟨w, h1, h2⟩ := hA.met.got p (List.mem_range.mpr hp)
      exact ⟨w, h1, fun _ => h2⟩
    · exact ⟨[], fun a ha => (nomatch ha), fun h => absurd h hp⟩
  obtain ⟨wd, hwd⟩ := Classical.axiomOfChoice got
  let φ : Nat → Nat := fun p => led B (wd p) 0
  have lA : ∀ w : List Nat, (∀ a ∈ w, a < k) → led A w 0 < A.length := fun w hw => led_lt hA.sq w 0 hw hA.sq.some
  have lB : ∀ w : List Nat, (∀ a ∈ w, a < k) → led B w 0 < B.length := fun w hw => led_lt hB.sq w 0 hw hB.sq.some
  have key : ∀ w : List Nat, (∀ a ∈ w, a < k) → led B w 0 = φ (led A w 0) := fun w hw => by
    have hx := hwd (led A w 0)
    refine hB.parted _ _ (lB w hw) (lB _ hx.1) fun v hv => ?_
    rw [← led_app, ← led_app, ← same _ (app_lt hw hv), ← same _ (app_lt hx.1 hv), led_app, led_app, hx.2 (lA w hw)]
  have φ0 : φ 0 = 0 := (key [] fun a ha => nomatch ha).symm
  have inj : ∀ p q, p < A.length → q < A.length → φ p = φ q → p = q := fun p q hp hq e => by
    refine hA.parted p q hp hq fun v hv => ?_
    have e1 := (hwd p).2 hp
    have e2 := (hwd q).2 hq
    have s1 := same _ (app_lt (hwd p).1 hv)
    have s2 := same _ (app_lt (hwd q).1 hv)
    rw [led_app, led_app, e1] at s1
    rw [led_app, led_app, e2] at s2
    rw [s1, s2]
    show led B v (φ p) ∈ eB ↔ led B v (φ q) ∈ eB
    rw [e]
  have hom : ∀ p, p < A.length → rowOf B (φ p) = (rowOf A p).map φ := fun p hp => by
    have hφ : φ p < B.length := lB _ (hwd p).1
    refine row_ext hB.sq hφ (by rw [List.length_map, width hA.sq hp]) fun a ha => ?_
    rw [List.getElem?_map, next_at hp fun r hr => by rw [hA.sq.wide r hr]; exact ha]
    have e := key (wd p ++ [a]) (app_lt (hwd p).1 (one_lt ha))
    rw [led_one, led_one, (hwd p).2 hp] at e
    exact congrArg some e.symm
  have M := met_map (B := B) (π := φ) hA.sq (fun x hx => List.mem_range.mp hx) hA.met (fun p hp => hom p (List.mem_range.mp hp)) fun w hw => by
    rw [φ0]
    exact key w hw
  rw [φ0] at M
  have nd : ((List.range A.length).map φ).Nodup := by
    refine List.pairwise_map.mpr (List.Pairwise.imp_of_mem (fun {p q} hp hq ne e => ne (inj p q (List.mem_range.mp hp) (List.mem_range.mp hq) e)) List.nodup_range)
  rw [dd_self nd] at M
  have e := met_uniq hB.sq (fun x hx => List.mem_range.mp hx) (fun x hx => by
    obtain ⟨p, hp, rfl⟩ := List.mem_map.mp hx
    exact lB _ (hwd p).1) hB.met M
  have hn : A.length = B.length := by
    have := congrArg List.length e
    rw [List.length_map, List.length_range, List.length_range] at this
    exact this.symm
  have id : ∀ p, p < A.length → φ p = p := fun p hp => by
    have := congrArg (fun l : List Nat => l[p]?) e
    simp only [List.getElem?_map] at this
    rw [List.getElem?_range (by omega), List.getElem?_range hp] at this
    exact (Option.some.inj this).symm
  refine ⟨rows_ext hn fun p hp => ?_, ?_⟩
  · have h := hom p hp
    rw [id p hp] at h
    rw [h]
    have : ∀ x ∈ rowOf A p, φ x = x := fun x hx => id x (rowOf_mem hA.sq.inn x hx)
    rw [List.map_congr_left this, List.map_id']
  · rw [hA.ends, hB.ends, hn]
    refine List.filter_congr fun p hp => ?_
    have hp' : p < A.length := by rw [hn]; exact List.mem_range.mp hp
    have s := same _ (hwd p).1
    rw [(hwd p).2 hp', show led B (wd p) 0 = p from id p hp'] at s
    exact decide_eq_decide.mpr s
/-! ### the machine that the program makes is such a one -/
theorem bfs_met {rows : List (List Nat)} {k : Nat} (sq : Square rows k) : ∀ (f i : Nat) (o : List Nat), o.Nodup → (∀ x ∈ o, x < rows.length) → rows.length + 1 ≤ f + i → i ≤ o.length →
    o = dd (0 :: (o.take i).flatMap (rowOf rows)) → (∀ x ∈ o, ∃ w : List Nat, (∀ a ∈ w, a < k) ∧ led rows w 0 = x) → Met rows k 0 (bfs rows f i o)
  | 0, i, o, nd, lt, hf, hi, e, g => by
    have := nodup_lt rows.length o nd lt
    omega
  | f + 1, i, o, nd, lt, hf, hi, e, g => by
    unfold bfs
    by_cases h : i < o.length
    · rw [if_pos h]
      have hs := lt _ (List.mem_of_getElem? (getD_at h))
      have q := fold_into (rowOf rows (o.getD i 0)) o nd lt fun t ht => rowOf_mem sq.inn t ht
      have pre := fold_pre2 (rowOf rows (o.getD i 0)) o
      have tk : ((rowOf rows (o.getD i 0)).foldl into o).take (i + 1) = o.take i ++ [o.getD i 0] := by
        obtain ⟨r, hr⟩ := pre
        rw [← hr, List.take_append_of_le_length (by omega), List.take_add_one, getD_at h]
        rfl
      refine bfs_met sq f (i + 1) _ q.1 q.2 (by omega) (Nat.le_trans h pre.length_le) ?_ fun x hx => ?_
      · rw [tk, List.flatMap_append, List.flatMap_cons, List.flatMap_nil, List.append_nil, ← List.cons_append, dd_app, ← e]
      · rcases mem_fold.mp hx with h' | h'
        · exact g x h'
        · obtain ⟨w, h1, h2⟩ := g _ (List.mem_of_getElem? (getD_at h))
          obtain ⟨a, ha, ea⟩ := List.getElem_of_mem h'
          have hak : a < k := by rw [width sq hs] at ha; exact ha
          refine ⟨w ++ [a], app_lt h1 (one_lt hak), ?_⟩
          rw [led_one, h2]
          have z := next_at (a := a) hs fun r hr => by rw [sq.wide r hr]; exact hak
          rw [List.getElem?_eq_getElem ha, ea] at z
          exact (Option.some.inj z).symm
    · rw [if_neg h]
      rw [List.take_of_length_le (by omega)] at e
      exact ⟨e, g⟩
theorem reach_met {rows : List (List Nat)} {k : Nat} (sq : Square rows k) : Met rows k 0 (reach rows 0) :=
  bfs_met sq (rows.length + 1) 0 [0] (by simp) (fun x hx => by rw [List.mem_singleton.mp hx]; exact sq.some) (Nat.le_refl _) (Nat.zero_le _) rfl fun x hx => ⟨[], fun a ha => (nomatch ha), (List.mem_singleton.mp hx).symm⟩
theorem idx_range {o : List Nat} (nd : o.Nodup) : o.map (fun x => o.idxOf x) = List.range o.length := by
  apply List.ext_getElem?
  intro i
  rw [List.getElem?_map]
  by_cases h : i < o.length
  · rw [List.getElem?_eq_getElem h, List.getElem?_range h]
    show some (o.idxOf o[i]) = some i
    congr 1
    have h2 := List.idxOf_lt_length_of_mem (List.getElem_mem h)
    exact (List.getElem_inj nd).mp (List.getElem_idxOf h2)
  · rw [List.getElem?_eq_none (by omega), List.getElem?_eq_none (by rw [List.length_range]; omega)]
    rfl
theorem idx_zero {o : List Nat} (nd : o.Nodup) {s : Nat} (h : o[0]? = some s) : o.idxOf s = 0 := by
  cases o with
  | nil => cases h
  | cons x r =>
    cases (show x = s from Option.some.inj h)
    simp
theorem range_met {rows : List (List Nat)} {k : Nat} (sq : Square rows k) : Met (renum rows (reach rows 0)) k 0 (List.range (renum rows (reach rows 0)).length) := by
  have R := reached sq.inn sq.some
  have m0 : 0 ∈ reach rows 0 := List.mem_of_getElem? R.first
  have i0 : (reach rows 0).idxOf 0 = 0 := idx_zero R.nd R.first
  have M := met_map (B := renum rows (reach rows 0)) (π := fun x => (reach rows 0).idxOf x) sq R.lt (reach_met sq) (fun p hp => by rw [renum_row (List.idxOf_lt_length_of_mem hp), idx_get hp]) fun w hw => (led_renum sq R w 0 hw m0).1
  rw [idx_range R.nd, dd_self List.nodup_range] at M
  have l1 : (renum rows (reach rows 0)).length = (reach rows 0).length := List.length_map _
  rw [l1]
  have z := M
  rw [i0] at z
  exact z
theorem firsts_pre (cs : List Nat) (i : Nat) : ∀ j, firstsTo cs i <+: firstsTo cs (i + j)
  | 0 => List.prefix_rfl
  | j + 1 => by
    rw [← Nat.add_assoc, firstsTo_succ]
    split
    · exact (firsts_pre cs i j).trans (List.prefix_append _ _)
    · exact firsts_pre cs i j
theorem idx_pre {l m : List Nat} (h : l <+: m) {x : Nat} (hx : x ∈ l) : m.idxOf x = l.idxOf x := by
  obtain ⟨r, rfl⟩ := h
  rw [List.idxOf_append, if_pos hx]
theorem num_first {cs : List Nat} {i : Nat} (hi : i < cs.length) (h : isFirst cs i = true) : numOf cs i = (firstsTo cs i).length := by
  have n : clsOf cs i ∉ keysOf cs i := by
    rw [isFirst_iff] at h
    simpa using h
  have p : keysOf cs i ++ [clsOf cs i] <+: keysOf cs cs.length := by
    have e : firstsTo cs (i + 1) = firstsTo cs i ++ [i] := by rw [firstsTo_succ, if_pos h]
    have q := firsts_pre cs (i + 1) (cs.length - (i + 1))
    rw [show i + 1 + (cs.length - (i + 1)) = cs.length by omega, e] at q
    have := q.map (clsOf cs)
    rw [List.map_append] at this
    exact this
  unfold numOf
  rw [idx_pre p (by simp), List.idxOf_append, if_neg n, List.length_map]
  simp
theorem num_old {cs : List Nat} {i : Nat} (hi : i < cs.length) (h : ¬ isFirst cs i = true) : numOf cs i < (firstsTo cs i).length := by
  have n : clsOf cs i ∈ keysOf cs i := by
    rw [isFirst_iff] at h
    simpa using h
  have p : keysOf cs i <+: keysOf cs cs.length := by
    have q := firsts_pre cs i (cs.length - i)
    rw [show i + (cs.length - i) = cs.length by omega] at q
    exact q.map (clsOf cs)
  unfold numOf
  rw [idx_pre p n]
  have := List.idxOf_lt_length_of_mem n
  rw [List.length_map] at this
  exact this
theorem dd_nums (cs : List Nat) : ∀ i, i ≤ cs.length → dd ((List.range i).map (numOf cs)) = List.range (firstsTo cs i).length
  | 0, _ => rfl
  | i + 1, h => by
    rw [List.range_succ, List.map_append, List.map_cons, List.map_nil, dd_snoc, dd_nums cs i (by omega), firstsTo_succ]
    by_cases c : isFirst cs i = true
    · rw [num_first h c, if_pos c, into_out (by rw [List.mem_range]; omega), List.length_append, ← List.range_succ]
      rfl
    · rw [if_neg c, into_in (List.mem_range.mpr (num_old h c))]
theorem quot_num {cs : List Nat} {p : Nat} (hp : p < (firstsOf cs).length) : numOf cs ((firstsOf cs).getD p 0) = p := by
  unfold numOf
  have h1 : p < (keysOf cs cs.length).length := by rw [List.length_map]; exact hp
  have e : clsOf cs ((firstsOf cs).getD p 0) = (keysOf cs cs.length)[p] := by
    rw [List.getElem_map, List.getD_eq_getElem?_getD, List.getElem?_eq_getElem hp]
    rfl
  rw [e]
  have h2 := List.idxOf_lt_length_of_mem (List.getElem_mem h1)
  exact (List.getElem_inj (keys_nodup cs cs.length)).mp (List.getElem_idxOf h2)
theorem quot_least {A : List (List Nat)} {k : Nat} {ends cs : List Nat} (sq : Square A k) (M : Met A k 0 (List.range A.length)) (hc : cs.length = A.length)
    (rf : Hop.Ref A.length k (nextOf A) (fun x => x ∈ ends) (clsOf cs))
    (st : ∀ p q a, p < A.length → q < A.length → a < k → clsOf cs p = clsOf cs q → clsOf cs (nextOf A a p) = clsOf cs (nextOf A a q)) : Least (quotRows A cs) k (endsAt (firstsOf cs) ends) := by
  have lq : (quotRows A cs).length = (firstsOf cs).length := List.length_map _
  have f0 : ∀ p, p < (firstsOf cs).length → (firstsOf cs).getD p 0 < A.length := fun p hp => by
    have z : (firstsOf cs).getD p 0 < cs.length := List.mem_range.mp (List.mem_filter.mp (List.mem_of_getElem? (getD_at hp))).1
    omega
  have few : (firstsOf cs).length ≤ A.length := by
    have := List.length_filter_le (isFirst cs) (List.range cs.length)
    rw [List.length_range] at this
    show ((List.range cs.length).filter (isFirst cs)).length ≤ _
    omega
  have sqq : Square (quotRows A cs) k := by
    refine ⟨?_, ?_, fun r hr => ?_, sq.thin, fun r hr t ht => ?_⟩
    · rw [lq]
      have := (first_of (cs := cs) (t := 0) (by rw [hc]; exact sq.some)).1
      omega
    · rw [lq]
      exact Nat.le_trans few sq.few
    · obtain ⟨s, hs, rfl⟩ := List.mem_map.mp hr
      have hs' : s < A.length := by rw [← hc]; exact List.mem_range.mp (List.mem_filter.mp hs).1
      rw [List.length_map, width sq hs']
    · obtain ⟨s, hs, rfl⟩ := List.mem_map.mp hr
      obtain ⟨u, hu, rfl⟩ := List.mem_map.mp ht
      rw [lq]
      exact (first_of (cs := cs) (t := u) (by rw [hc]; exact rowOf_mem sq.inn u hu)).1
  have hom : ∀ p, p < A.length → rowOf (quotRows A cs) (numOf cs p) = (rowOf A p).map (numOf cs) := fun p hp => by
    obtain ⟨h1, h2⟩ := first_of (cs := cs) (t := p) (by omega)
    refine row_ext sqq (by rw [lq]; exact h1) (by rw [List.length_map, width sq hp]) fun a ha => ?_
    rw [List.getElem?_map, next_at hp fun r hr => by rw [sq.wide r hr]; exact ha]
    refine congrArg some ?_
    have e := led_quot sq hc st [a] p (one_lt ha) hp
    exact e.symm
  refine ⟨sqq, ?_, fun p q hp hq h => ?_, ?_⟩
  · have z := met_map (B := quotRows A cs) (π := numOf cs) sq (fun x hx => List.mem_range.mp hx) M (fun p hp => hom p (List.mem_range.mp hp)) fun w hw => led_quot sq hc st w 0 hw sq.some
    rw [← hc, dd_nums cs cs.length (Nat.le_refl _), num_zero (by rw [hc]; exact sq.some)] at z
    rw [lq]
    exact z
  · rw [lq] at hp hq
    have ep := quot_num hp
    have eq := quot_num hq
    have hA : ∀ p, p < (firstsOf cs).length → ∀ w : List Nat, (∀ a ∈ w, a < k) → (led (quotRows A cs) w p ∈ endsAt (firstsOf cs) ends ↔ led A w ((firstsOf cs).getD p 0) ∈ ends) := fun p hp w hw => by
      have e := led_quot sq hc st w _ hw (f0 p hp)
      rw [quot_num hp] at e
      have l1 := led_lt sq w _ hw (f0 p hp)
      obtain ⟨g1, g2⟩ := first_of (cs := cs) (t := led A w ((firstsOf cs).getD p 0)) (by omega)
      rw [e, mem_endsAt g1]
      exact rf.fl _ _ (f0 _ g1) l1 g2
    have cl : clsOf cs ((firstsOf cs).getD p 0) = clsOf cs ((firstsOf cs).getD q 0) := by
      refine rf.mx (fun x y => x < A.length ∧ y < A.length ∧ ∀ w : List Nat, (∀ a ∈ w, a < k) → (led A w x ∈ ends ↔ led A w y ∈ ends)) (fun x y r => r.2.2 [] fun a ha => nomatch ha) (fun x y r a ha => ⟨next_lt sq ha r.1, next_lt sq ha r.2.1, fun w hw => r.2.2 (a :: w) fun b hb => (List.mem_cons.mp hb).elim (fun e => e ▸ ha) (hw b)⟩) _ _ (f0 p hp) (f0 q hq) ⟨f0 p hp, f0 q hq, fun w hw => ?_⟩
      rw [← hA p hp w hw, ← hA q hq w hw]
      exact h w hw
    have z := num_congr cl
    rw [ep, eq] at z
    exact z
  · rw [lq]
    unfold endsAt
    refine List.filter_congr fun x hx => decide_eq_decide.mpr ⟨fun c => List.mem_filter.mpr ⟨hx, decide_eq_true c⟩, fun c => of_decide_eq_true (List.mem_filter.mp c).2⟩
theorem made_least {rows : List (List Nat)} {k : Nat} {ends cs : List Nat} (sq : Square rows k) (hc : cs.length = (renum rows (reach rows 0)).length)
    (rf : Hop.Ref (renum rows (reach rows 0)).length k (nextOf (renum rows (reach rows 0))) (fun x => x ∈ endsAt (reach rows 0) ends) (clsOf cs))
    (st : ∀ p q a, p < (renum rows (reach rows 0)).length → q < (renum rows (reach rows 0)).length → a < k → clsOf cs p = clsOf cs q → clsOf cs (nextOf (renum rows (reach rows 0)) a p) = clsOf cs (nextOf (renum rows (reach rows 0)) a q)) :
    Least (quotRows (renum rows (reach rows 0)) cs) k (endsAt (firstsOf cs) (endsAt (reach rows 0) ends)) := quot_least (renum_square sq) (range_met sq) hc rf st
end Vf

set_option Elab.async false
set_option linter.all false
set_option maxRecDepth 100000
set_option maxHeartbeats 4000000
namespace Vf
open PySem PySem.Spec PyProof.Rows L2 L2.Vx
/-! ### least_machine once more: its parts as data, and that they are the least ones -/
def natsT (ns : List Nat) : PyData := .tuple (ns.map fun n => .int (n : Nat))
def rowsT (rows : List (List Nat)) : PyData := .tuple (rows.map natsT)
theorem dtA_nats {H : Hp} {S : Addr → Prop} : ∀ ns : List Nat, DtAll H S (ns.map nI) (ns.map fun n => .int (n : Nat))
  | [] => .nil
  | n :: r => .cons (.flat rfl) (dtA_nats r)
theorem dtA_rows {H : Hp} : ∀ (ts : List Addr) (rows : List (List Nat)), ts.length = rows.length → (∀ (j : Nat) (t : Addr), ts[j]? = some t → H t = some (.tup ((rows.getD j []).map nI))) → DtAll H (fun _ => True) (ts.map V.ref) (rows.map natsT)
  | [], [], _, _ => .nil
  | [], _ :: _, h, _ => nomatch h
  | _ :: _, [], h, _ => nomatch h
  | t :: ts, r :: rows, h, e => by
    refine .cons (.tup (e 0 t rfl) trivial (dtA_nats r)) (dtA_rows ts rows (Nat.succ.inj h) fun j u hj => ?_)
    have z := e (j + 1) u (by simpa using hj)
    simpa using z
def spLeastL (K : PySem.W.Frag) : Sp := fun vs H Q _ => ∃ (v e : V) (rows : List (List Nat)) (ends : List Nat) (k : Nat), vs = [v, e] ∧ RowsAt K H v rows ∧ TupN K H e ends ∧ Square rows k ∧ (∀ x ∈ ends, x < rows.length) ∧
  ∀ t a b rows' ends' H', Same H H' → H t = none → H' t = some (.tup [a, b]) → Least rows' k ends' → (∀ w : List Nat, (∀ a ∈ w, a < k) → (led rows' w 0 ∈ ends' ↔ led rows w 0 ∈ ends)) →
    Dt H' (fun _ => True) a (rowsT rows') → Dt H' (fun _ => True) b (natsT ends') → Q (.ref t) H'
section
variable {P : Program} {w : World} {K : PySem.W.Frag} {mg : Str → Option Value} {base : Heap}
theorem ok_leastL {f fF fT fC : Addr} {fd fdF fdT fdC : FuncData} (F : Fun K "least_machine" "least_machine" sLeast f fd) (T : TxtM mg)
    (GF : FnOk P w K mg base CX0 1 fF fdF ["many", "ends"] (spFlags K)) (bF : Binds K fdF ["many", "ends"] []) (kF : PySem.W.keepIn K (.ref fF) = true) (mF : mg "end_flags" = some (.ref fF))
    (GT : FnOk P w K mg base CX0 2 fT fdT ["rows", "ends", "start"] (spStarted K)) (bT : Binds K fdT ["rows", "ends", "start"] []) (kT : PySem.W.keepIn K (.ref fT) = true) (mT : mg "started_at" = some (.ref fT))
    (GC : FnOk P w K mg base CX0 2 fC fdC ["rows", "ends"] (spCls K)) (bC : Binds K fdC ["rows", "ends"] []) (kC : PySem.W.keepIn K (.ref fC) = true) (mC : mg "classes_of" = some (.ref fC)) :
    FnOk P w K mg base CX0 3 f fd ["rows", "ends"] (spLeastL K) := by
  refine F.ok scLeast (fun vs H Q E h => ?_) (fun cdv A outer s H vs Q E hr h => ?_)
  · obtain ⟨v, e, rows, ends, k, rfl, _⟩ := h
    rfl
  obtain ⟨v, e, rows, ends, k, rfl, hR, hE, sq, hel, q⟩ := h
  have hu := hu_of hr
  have hr1 : Room 1 _ := hr.mono (by decide)
  refine ⟨_, pss_cons (ps_asg (pe_call GT hr rfl mT kT bT .nil pass0 (pa_cons (pv 0) (pa_cons (pv 1) (pa_cons pe_int pa_nil)))) (pg_tup rfl (pgs_cons (pg_name (i := 0) scLeast.nd rfl (Or.inr rfl)) (pgs_cons (pg_name (i := 1) scLeast.nd rfl (Or.inl rfl)) pgs_nil))))
    (pss_cons (ps_set (i := 2) scLeast.nd rfl (Or.inr rfl) (pe_call GC hr rfl mC kC bC .nil pass0 (pa_cons (pv 0) (pa_cons (pv 1) pa_nil))))
    (pss_cons (ps_set (i := 3) scLeast.nd rfl (Or.inr rfl) pe_dnewK)
    (pss_cons (ps_set (i := 4) scLeast.nd rfl (Or.inl rfl) (pe_lst pa_nil))
    (pss_cons (ps_for PassesOwn.never rfl (pi_enum (by rfl) T.enu (pa_cons (pv 2) pa_nil)) (pg_tup rfl (pgs_cons (pg_name (i := 5) scLeast.nd rfl (Or.inl rfl)) (pgs_cons (pg_name (i := 6) scLeast.nd rfl (Or.inl rfl)) pgs_nil)))
      (pss_one (ps_if (pt_cmp (pc_dnotin hu (pv 6) (pv 3))) (pss_cons (ps_dput hu (pv 3) (pv 6) (pe_callB call_len_seq (by rfl) T.len PySem.boot_len (pa_cons (pv 4) pa_nil)) rfl)
        (pss_one (ps_expr (pe_bm PySem.F.plainAttrs_list PySem.F.slot_list_append PySem.F.type_list_append mt_append (pv 4) (pa_cons (pv 5) pa_nil))))) pss_nil)))
    (pss_cons (ps_set (i := 7) scLeast.nd rfl (Or.inr rfl) (pe_call GF hr1 rfl mF kF bF .nil pass0 (pa_cons (pe_callB call_len_seq (by rfl) T.len PySem.boot_len (pa_cons (pv 0) pa_nil)) (pa_cons (pv 1) pa_nil))))
    (pss_cons (ps_set (i := 8) scLeast.nd rfl (Or.inl rfl) (pe_callTy call_tuple_of (by rfl) T.tuple (by decide +kernel) (pa_cons (pe_lc (own := [("state", 5)]) (g := gName 5) (tt := tYes) rfl scLeast.nd (pi_list (pv 4))
        (blkOk_by (N := nLeast) (sc := defScope sLeast) (by decide +kernel)) (fun _ _ _ _ _ => pg_name (i := 5) scLeast.nd rfl (Or.inl rfl)) (fun _ _ _ _ _ => pts_nil)
        (fun _ _ _ _ _ => by exact pe_callTy (tupOf_at (K := K) rfl) (by rfl) T.tuple (by decide +kernel) (pa_cons (pe_lc (own := [("target", 9)]) (g := gName 9) (tt := tYes) rfl scLeast.nd (piT_at (K := K) rfl (pe_ix (ixT_at (K := K) rfl) (pv 0) (pv 5) (fun _ _ => rfl)))
          (blkOk_by (N := nLeast) (sc := scIn2) (by decide +kernel)) (fun _ _ _ _ _ => pg_name (i := 9) scLeast.nd rfl (Or.inl rfl)) (fun _ _ _ _ _ => pts_nil)
          (fun _ _ _ _ _ => by exact pe_dget hu (pv 3) (pe_ix (ixL_at (K := K) rfl) (pv 2) (pv 9) (fun _ _ => rfl)) (fun _ _ => rfl))) pa_nil))) pa_nil)))
    (pss_one (ps_ret (pe_tup (pa_cons (pv 8) (pa_cons (pe_callTy call_tuple_of (by rfl) T.tuple (by decide +kernel) (pa_cons (pe_lc (own := [("number", 10), ("state", 5)]) (g := gTup K 2 (gCons (gName 10) (gCons (gName 5) gNil))) rfl scLeast.nd (pi_enum (by rfl) T.enu (pa_cons (pv 4) pa_nil))
        (blkOk_by (N := nLeast) (sc := defScope sLeast) (by decide +kernel)) (fun _ _ _ _ _ => by exact (pg_tup rfl (pgs_cons (pg_name (i := 10) scLeast.nd rfl (Or.inl rfl)) (pgs_cons (pg_name (i := 5) scLeast.nd rfl (Or.inl rfl)) pgs_nil))))
        (fun _ _ _ _ _ => by exact pts_one (pt_val (pe_ix (ixL_at (K := K) rfl) (pv 7) (pv 5) (fun _ _ => rfl)))) (fun _ _ _ _ _ => by exact pv 10)) pa_nil)) pa_nil))))))))))), ?_⟩
  have lead : ∀ cs : List Nat, cs.length = (renum rows (reach rows 0)).length → Hop.Ref (renum rows (reach rows 0)).length k (nextOf (renum rows (reach rows 0))) (fun x => x ∈ endsAt (reach rows 0) ends) (clsOf cs) →
      (∀ p q a, p < (renum rows (reach rows 0)).length → q < (renum rows (reach rows 0)).length → a < k → clsOf cs p = clsOf cs q → clsOf cs (nextOf (renum rows (reach rows 0)) a p) = clsOf cs (nextOf (renum rows (reach rows 0)) a q)) →
      Least (quotRows (renum rows (reach rows 0)) cs) k (endsAt (firstsOf cs) (endsAt (reach rows 0) ends)) ∧ ∀ w : List Nat, (∀ a ∈ w, a < k) → (led (quotRows (renum rows (reach rows 0)) cs) w 0 ∈ endsAt (firstsOf cs) (endsAt (reach rows 0) ends) ↔ led rows w 0 ∈ ends) :=
    fun cs hc rf st => ⟨made_least sq hc rf st, fun w hw => least_same sq hc rf st w hw⟩
  have sq1 := renum_square sq
  have l1 : (renum rows (reach rows 0)).length = (reach rows 0).length := List.length_map _
  have hel1 : ∀ x ∈ endsAt (reach rows 0) ends, x < (renum rows (reach rows 0)).length := fun x hx => by
    rw [l1]
    exact List.mem_range.mp (List.mem_filter.mp hx).1
  have end1 : (endsAt (reach rows 0) ends).Nodup := List.Pairwise.filter _ List.nodup_range
  have thin := sq.thin
  refine ⟨_, rfl, _, rfl, v, e, rows, ends, 0, rfl, hR, hE, sq.inn, hel, sq.some, sq.few, fun r hr => by rw [sq.wide r hr]; omega, fun t0 a1 b1 H1 s1 ht0 e1 hR1 hE1 => ?_⟩
  generalize renum rows (reach rows 0) = rows1 at *
  generalize endsAt (reach rows 0) ends = ends1 at *
  refine ⟨t0, _, rfl, SqT.of e1, rfl, _, _, rfl, _, _, rfl, rfl, ?_⟩
  refine ⟨_, rfl, _, rfl, a1, b1, rows1, ends1, k, rfl, hR1, hE1, sq1, hel1, end1, fun lc cs H2 s2 hlc ec cn rf stable => ?_⟩
  have few1 := sq1.few
  intro dn hdn
  have sd := same_new hdn (.dK [])
  have ed : upd H2 dn (.dK []) dn = some (.dK []) := upd_same
  show gName 3 _ _ (upd H2 dn (.dK [])) _
  generalize upd H2 dn (.dK []) = H3 at sd ed ⊢
  refine ⟨Nat.zero_le _, fun lf hlf => ?_⟩
  have sf := same_new hlf (.lst [])
  have ef : upd H3 lf (.lst []) lf = some (.lst []) := upd_same
  have ed' := sf _ _ ed
  have hlfH : H2 lf = none := sd.free hlf
  have hdlf : dn ≠ lf := ne_of_none ed hlf
  have s3 := sd.trans sf
  show gName 4 _ _ (upd H3 lf (.lst [])) _
  generalize upd H3 lf (.lst []) = H4 at ef ed' s3 ⊢
  clear sd sf ed
  have kd := fun i => keys_nodup cs i
  have kl : ∀ i, (keysOf cs i).length = (firstsTo cs i).length := fun i => List.length_map _
  have fl : ∀ i, (firstsTo cs i).length ≤ i := fun i => by
    unfold firstsTo
    have z := List.length_filter_le (isFirst cs) (List.range i)
    rw [List.length_range] at z
    exact z
  have hs : ∀ (o : List Nat) (t : Nat), o.Nodup → (valV (numK o) (Sum.inl (t : Int))).isSome = decide (t ∈ o) := fun o t nd => by
    by_cases c : t ∈ o
    · rw [num_at nd c, decide_eq_true c]; rfl
    · rw [num_none c, decide_eq_false c]; rfl
  refine ⟨_, rfl, lc, _, rfl, SqL.of (s3 _ _ ec), ?_⟩
  refine for_it (walk_enum (xs := cs.map nI)) (fun i σ H' => ∃ v5 v6 : Option V, σ = [some a1, some b1, some (.ref lc), some (.ref dn), some (.ref lf), v5, v6, none, none, none, none] ∧ H' dn = some (.dK (numK (keysOf cs i))) ∧ H' lf = some (.lst ((firstsTo cs i).map nI)) ∧ Same H2 H')
    ⟨none, none, rfl, ed', ef, s3⟩ (fun i σ H' _ ⟨_, _, _, _, _, s⟩ => s.seq (SqL.of ec)) ?_ ?_
  · rintro i x σ H5 H6 hi ⟨v5, v6, rfl, k1, k2, k3⟩ ⟨T1, x1, y1, rfl, hT, rfl, e1', e2⟩
    obtain rfl : V.int (i : Nat) = x1 := Option.some.inj e1'
    rw [List.length_map] at hi
    have e2' : some (nI (clsOf cs i)) = some y1 := by
      have z : (cs.map nI)[i]? = some y1 := e2
      rw [List.getElem?_map, getD_at hi] at z
      exact z
    obtain rfl : nI (clsOf cs i) = y1 := Option.some.inj e2'
    have sT := same_new hT (.tup [V.int (i : Nat), nI (clsOf cs i)])
    refine ⟨T1, _, rfl, SqT.of upd_same, rfl, _, _, rfl, _, _, rfl, rfl, ?_⟩
    have k1' := sT _ _ k1
    have k2' := sT _ _ k2
    have k3' := k3.trans sT
    show tIfS _ _ _ _ _ (upd H5 T1 (.tup [V.int (i : Nat), nI (clsOf cs i)]))
    generalize upd H5 T1 (.tup [V.int (i : Nat), nI (clsOf cs i)]) = H7 at k1' k2' k3' ⊢
    refine ⟨_, rfl, _, rfl, dn, _, rfl, DGet.k (k := Sum.inl (clsOf cs i : Int)) k1', _, rfl, ?_⟩
    rw [hs _ _ (kd i)]
    have big : (firstsTo cs i).length < sizeLine := Nat.lt_of_le_of_lt (fl i) (by rw [cn] at hi; exact Nat.lt_of_lt_of_le hi (Nat.le_trans few1 (by decide)))
    by_cases c : clsOf cs i ∈ keysOf cs i
    · rw [decide_eq_true c]
      have hf : isFirst cs i = false := by rw [isFirst_iff, decide_eq_true c]; rfl
      have n1 : firstsTo cs (i + 1) = firstsTo cs i := by rw [firstsTo_succ, if_neg (by rw [hf]; exact Bool.false_ne_true)]
      refine ⟨_, _, rfl, ?_, ?_, k3'⟩
      · unfold keysOf
        rw [n1]
        exact k1'
      · rw [n1]
        exact k2'
    · rw [decide_eq_false c]
      have hf : isFirst cs i = true := by rw [isFirst_iff, decide_eq_false c]; rfl
      have n1 : firstsTo cs (i + 1) = firstsTo cs i ++ [i] := by rw [firstsTo_succ, if_pos hf]
      refine ⟨_, rfl, lf, _, rfl, .inl (SqL.of k2'), _, rfl, _, rfl, dn, _, rfl, DPut.k (k := Sum.inl (clsOf cs i : Int)) k1' (by unfold numK; rw [List.length_map, List.length_range, kl]; exact big), ?_⟩
      rw [putK_new _ (num_none c), List.length_map]
      have k2'' : upd H7 dn (.dK (numK (keysOf cs i) ++ [((Sum.inl ((clsOf cs i : Nat) : Int) : Key), V.int ((firstsTo cs i).length : Int))])) lf = some (.lst ((firstsTo cs i).map nI)) := by rw [upd_ne hdlf.symm]; exact k2'
      refine ⟨_, rfl, .inl ⟨rfl, _, SqL.of k2''⟩, _, rfl, lf, _, _, rfl, rfl, k2'', by rw [List.length_map]; exact big, _, _, rfl, ?_, ?_, fun b u e' => ?_⟩
      · rw [upd_ne hdlf, upd_same]
        unfold keysOf
        rw [n1, List.map_append, List.map_cons, List.map_nil, numK_snoc, ← kl i]
      · rw [upd_same, n1, List.map_append]
        rfl
      · rw [upd_ne (ne_of_none e' hlfH), upd_ne (ne_of_none e' hdn)]
        exact k3' b u e'
  · rintro σ H5 ⟨v5, v6, rfl, k1, k2, k3⟩
    rw [List.length_map] at k1 k2
    have s5 : Same H1 H5 := s2.trans k3
    have hR5 := hR1.same s5
    have hE5 := hE1.same s5
    have elc := k3 _ _ ec
    obtain ⟨va, bs, rfl, hva, hbl, hrows⟩ := id hR5
    have fn : ∀ x ∈ firstsOf cs, x < rows1.length := fun x hx => by
      rw [← cn]
      exact List.mem_range.mp (List.mem_filter.mp hx).1
    have keym : ∀ t, t < rows1.length → clsOf cs t ∈ keysOf cs cs.length := fun t ht => by
      obtain ⟨x, h1, h2, _⟩ := first_has cs cs.length t (by rw [cn]; exact ht)
      exact List.mem_map.mpr ⟨x, h1, h2⟩
    have item : ∀ {i : Nat} {y : V}, ((firstsOf cs).map nI)[i]? = some y → ∃ h : i < (firstsOf cs).length, y = nI ((firstsOf cs).getD i 0) := fun {i y} e => by
      rw [List.getElem?_map] at e
      obtain ⟨t, ht, rfl⟩ := Option.map_eq_some_iff.mp e
      have hi := (List.getElem?_eq_some_iff.mp ht).1
      rw [getD_at hi] at ht
      exact ⟨hi, by rw [Option.some.inj ht]⟩
    have lo2 : (firstsOf cs).length < sizeLine := Nat.lt_of_le_of_lt (fl _) (by rw [cn]; exact Nat.lt_of_le_of_lt few1 (by decide))
    refine ⟨_, rfl, va, _, rfl, .inr hva, _, rfl, rows1.length, b1, ends1, by rw [hbl]; rfl, hE5, hel1, by omega, fun lg H6 s6 hlg g6 => ?_⟩
    have hR6 := hR5.same s6
    have kD := s6 _ _ k1
    have gl := s6 _ _ k2
    have elc6 := s6 _ _ elc
    refine ⟨_, rfl, lf, rfl, ⟨_, SqL.of gl⟩, fun D2 hD2 => ?_⟩
    have lr : (quotRows rows1 cs).length = (firstsOf cs).length := List.length_map _
    have getR : ∀ i, i < (firstsOf cs).length → (quotRows rows1 cs).getD i [] = (rowOf rows1 ((firstsOf cs).getD i 0)).map fun t => numOf cs t := fun i hi => by
      rw [List.getD_eq_getElem?_getD, show (quotRows rows1 cs)[i]? = some ((rowOf rows1 ((firstsOf cs).getD i 0)).map fun t => numOf cs t) by unfold quotRows; rw [List.getElem?_map, getD_at hi]; rfl]
      rfl
    refine lc_it (walk_list (xs := (firstsOf cs).map nI)) (fun i H' => ∃ ts : List Addr, H' D2 = some (.lst (ts.map V.ref)) ∧ ts.length = i ∧ (∀ (j : Nat) (t : Addr), ts[j]? = some t → H' t = some (.tup (((quotRows rows1 cs).getD j []).map nI))) ∧ Same H6 H')
      ⟨[], upd_same, rfl, (fun j t z => nomatch z), same_new hD2 _⟩ (fun i H' _ ⟨_, _, _, _, s⟩ => s.seq (SqL.of gl)) ?_ ?_
    · rintro i x H7 H8 hi ⟨ts, m1, m2, m3, m4⟩ ⟨rfl, hx⟩
      obtain ⟨hio, rfl⟩ := item hx
      have hmem : (firstsOf cs).getD i 0 ∈ firstsOf cs := List.mem_of_getElem? (getD_at hio)
      have hst := fn _ hmem
      obtain ⟨a', bs', b, ea, ha', hbs', hrow⟩ := hR6.row hst
      cases ea
      have hwid : (rowOf rows1 ((firstsOf cs).getD i 0)).length ≤ 1000 := by
        rw [sq1.wide _ (List.mem_of_getElem? (rowOf_at hst))]
        omega
      refine ⟨rfl, _, rfl, _, rfl, va, bs', _, .ref b, rfl, rfl, same_T m4 ha', atI_nat hbs', b, rfl, ⟨_, same_T m4 hrow⟩, fun D3 hD3 => ?_⟩
      refine lc_it (walk_tup (xs := (rowOf rows1 ((firstsOf cs).getD i 0)).map nI)) (fun j H' => H' D3 = some (.lst (((rowOf rows1 ((firstsOf cs).getD i 0)).take j).map fun t => nI (numOf cs t))) ∧ Same H8 H') ⟨upd_same, same_new hD3 _⟩ (fun j H' _ ⟨_, s⟩ => same_T s (same_T m4 hrow)) ?_ ?_
      · rintro j y H9 H10 hj ⟨n1, n2⟩ ⟨rfl, hy⟩
        rw [List.getElem?_map] at hy
        obtain ⟨t, ht, rfl⟩ := Option.map_eq_some_iff.mp hy
        have htn := rowOf_mem sq1.inn t (List.mem_of_getElem? ht)
        have hct : cs[t]? = some (clsOf cs t) := getD_at (by rw [cn]; exact htn)
        refine ⟨rfl, _, rfl, _, rfl, _, rfl, lc, _, _, nI (clsOf cs t), rfl, rfl, SqL.of (n2 _ _ (m4 _ _ elc6)), atI_nat (by rw [List.getElem?_map, hct]; rfl), dn, nI (numOf cs t), rfl, ?_, _, n1, ?_, ?_, fun b' u e' => ?_⟩
        · have z := num_at (kd cs.length) (keym t htn)
          unfold numOf
          rw [← z]
          exact DGet.k (k := Sum.inl (clsOf cs t : Int)) (n2 _ _ (m4 _ _ kD))
        · rw [List.length_map]
          exact Nat.lt_of_le_of_lt (List.length_take_le' _ _) (Nat.lt_of_le_of_lt hwid (by decide))
        · rw [upd_same, List.take_add_one, ht, List.map_append]
          rfl
        · rw [upd_ne (ne_of_none e' hD3)]
          exact n2 b' u e'
      · rintro H9 ⟨n1, n2⟩
        rw [List.length_map, List.take_length] at n1
        refine ⟨D3, _, rfl, .inl ⟨SqL.of n1, fun t ht => ?_⟩⟩
        have sT := same_new ht (.tup ((rowOf rows1 ((firstsOf cs).getD i 0)).map fun t => nI (numOf cs t)))
        have hD26 : H9 D2 = some (.lst (ts.map V.ref)) := n2 _ _ m1
        refine ⟨_, sT _ _ hD26, by rw [List.length_map, m2]; omega, ts ++ [t], by rw [upd_same, List.map_append]; rfl, by rw [List.length_append, m2]; rfl, fun j u hj => ?_, fun b' u e' => ?_⟩
        · rcases Nat.lt_or_ge j ts.length with c | c
          · rw [List.getElem?_append_left c] at hj
            have z := sT _ _ (n2 _ _ (m3 j u hj))
            rw [upd_ne (ne_of z (sT _ _ hD26) (by intro z; cases z))]
            exact z
          · rw [List.getElem?_append_right c] at hj
            have c0 : j - ts.length = 0 := by
              rcases Nat.eq_zero_or_pos (j - ts.length) with w | w
              · exact w
              · rw [List.getElem?_eq_none (by simp; omega)] at hj
                exact nomatch hj
            rw [c0] at hj
            obtain rfl : t = u := Option.some.inj hj
            obtain rfl : j = i := by omega
            rw [upd_ne (ne_of_none hD26 ht).symm, upd_same, getR j hio, List.map_map]
            rfl
        · rw [upd_ne (ne_of_none e' hD2)]
          exact sT _ _ (n2 _ _ (m4 b' u e'))
    · rintro H7 ⟨ts, m1, m2, m3, m4⟩
      rw [List.length_map] at m2
      refine ⟨D2, _, rfl, .inl ⟨SqL.of m1, fun tr htr => ?_⟩⟩
      have s4 := same_new htr (.tup (ts.map V.ref))
      have etr : upd H7 tr (.tup (ts.map V.ref)) tr = some (.tup (ts.map V.ref)) := upd_same
      have m3' := fun j t hj => s4 _ _ (m3 j t hj)
      have s34 := m4.trans s4
      show gName 8 _ _ (upd H7 tr (.tup (ts.map V.ref))) _
      generalize upd H7 tr (.tup (ts.map V.ref)) = H8 at s4 etr m3' s34 ⊢
      refine ⟨_, rfl, _, rfl, lf, _, rfl, SqL.of (s34 _ _ gl), fun D4 hD4 => ?_⟩
      refine lc_it walk_enum (fun i H' => H' D4 = some (.lst (((List.range i).filter fun j => decide ((firstsOf cs).getD j 0 ∈ ends1)).map nI)) ∧ Same H8 H') ⟨upd_same, same_new hD4 _⟩ (fun i H' _ ⟨_, s⟩ => s.seq (SqL.of (s34 _ _ gl))) ?_ ?_
      · rintro i x H9 H10 hi ⟨n1, n2⟩ ⟨T1, x1, y1, rfl, hT, rfl, e1', e2⟩
        obtain rfl : V.int (i : Nat) = x1 := Option.some.inj e1'
        obtain ⟨hio, rfl⟩ := item e2
        have hmem : (firstsOf cs).getD i 0 ∈ firstsOf cs := List.mem_of_getElem? (getD_at hio)
        have n1' := (upd_ne (o := .tup [V.int (i : Nat), nI ((firstsOf cs).getD i 0)]) (ne_of_none n1 hT)).trans n1
        have n2' := n2.trans (same_new hT (.tup [V.int (i : Nat), nI ((firstsOf cs).getD i 0)]))
        have hfl : ((flagsOf rows1.length ends1).map V.bl)[(firstsOf cs).getD i 0]? = some (.bl (decide ((firstsOf cs).getD i 0 ∈ ends1))) := by
          unfold flagsOf
          rw [List.getElem?_map, List.getElem?_map, List.getElem?_range (fn _ hmem)]
          rfl
        refine ⟨T1, _, rfl, SqT.of upd_same, rfl, _, _, rfl, _, _, rfl, rfl, rfl, _, rfl, _, rfl, lg, _, _, _, rfl, rfl, SqL.of (n2' _ _ (s34 _ _ g6)), atI_nat hfl, _, rfl, ?_⟩
        generalize upd H9 T1 (.tup [V.int (i : Nat), nI ((firstsOf cs).getD i 0)]) = H11 at n1' n2' ⊢
        refine ite2 (fun c => ⟨_, rfl, _, n1', ?_, ?_, fun b u e => ?_⟩) (fun c => ⟨?_, n2'⟩)
        · rw [List.length_map]
          refine Nat.lt_of_le_of_lt (List.length_filter_le _ _) ?_
          rw [List.length_range]
          omega
        · rw [upd_same, List.range_succ, List.filter_append, List.map_append]
          rw [show ([i].filter fun j => decide ((firstsOf cs).getD j 0 ∈ ends1)) = [i] by rw [List.filter_cons]; rw [if_pos c]; rfl]
          rfl
        · rw [upd_ne (ne_of_none e hD4)]
          exact n2' b u e
        · rw [n1', List.range_succ, List.filter_append]
          rw [show ([i].filter fun j => decide ((firstsOf cs).getD j 0 ∈ ends1)) = [] by rw [List.filter_cons]; rw [if_neg c]; rfl]
          rw [List.append_nil]
      · rintro H9 ⟨n1, n2⟩
        rw [List.length_map] at n1
        refine ⟨D4, _, rfl, .inl ⟨SqL.of n1, fun te hte => ⟨(by show 2 ≤ sizeLine; decide), fun t ht => ?_⟩⟩⟩
        have s7 := n2.trans (same_new hte (.tup ((endsAt (firstsOf cs) ends1).map nI)))
        have s8 := s7.trans (same_new ht (.tup [.ref tr, .ref te]))
        have base2 := (s1.trans s5).trans (s6.trans s34)
        have each : ∀ (j : Nat) (u : Addr), ts[j]? = some u → (upd (upd H9 te (.tup ((endsAt (firstsOf cs) ends1).map nI))) t (.tup [.ref tr, .ref te])) u = some (.tup (((quotRows rows1 cs).getD j []).map nI)) := fun j u hj => s8 _ _ (m3' j u hj)
        have ete : (upd (upd H9 te (.tup ((endsAt (firstsOf cs) ends1).map nI))) t (.tup [.ref tr, .ref te])) te = some (.tup ((endsAt (firstsOf cs) ends1).map nI)) := same_new ht _ _ _ upd_same
        obtain ⟨L1, L2⟩ := lead cs cn rf stable
        refine q t (.ref tr) (.ref te) _ _ _ (base2.trans s8) ((base2.trans s7).free ht) upd_same L1 L2 (.tup (s8 _ _ etr) trivial (dtA_rows ts _ (by rw [m2, lr]) each)) (.tup ete trivial (dtA_nats _))
end
end Vf

set_option Elab.async false
set_option linter.all false
set_option maxRecDepth 100000
set_option maxHeartbeats 4000000
namespace Vf
open PySem PySem.Spec PyProof.Rows L2 L2.Vx Vs
/-! ### state_behind -/
abbrev cp (x : Str) : List Nat := x.cps.toList
theorem sign_index {x : Str} {c : Nat} (h : c ∈ cp x) : ∃ rest, Builtin.Str.occurrences x ⟨#[c]⟩ 0 x.length 1 = (cp x).idxOf c :: rest := by
  have at_one : ∀ i, StrLaws.At x ⟨#[c]⟩ x.length i ↔ (cp x)[i]? = some c := fun i => StrLaws.subAt_one x c i
  rcases StrLaws.occ_head x ⟨#[c]⟩ 1 (Nat.le_refl _) with ⟨_, no⟩ | ⟨i, r, e, hi, no⟩
  · obtain ⟨j, hj⟩ := List.mem_iff_getElem?.mp h
    exact absurd ((at_one j).mpr hj) (no j)
  · refine ⟨r, ?_⟩
    have h1 := (at_one i).mp hi
    have hx := List.idxOf_lt_length_of_mem h
    have h2 : (cp x)[(cp x).idxOf c]? = some c := by
      rw [List.getElem?_eq_getElem hx]
      exact congrArg some (List.getElem_idxOf hx)
    have le1 : i ≤ (cp x).idxOf c := by
      rcases Nat.lt_or_ge ((cp x).idxOf c) i with z | z
      · exact absurd ((at_one _).mpr h2) (no _ z)
      · exact z
    have le2 : (cp x).idxOf c ≤ i := by
      obtain ⟨hi', e'⟩ := List.getElem?_eq_some_iff.mp h1
      rcases Nat.lt_or_ge i ((cp x).idxOf c) with z | z
      · have w := List.not_of_lt_findIdx (p := fun y => y == c) (xs := cp x) (i := i) z
        rw [e'] at w
        simp at w
      · exact z
    rw [e, Nat.le_antisymm le1 le2]
/-- a text's letters by their places -/
def lets (a x : Str) : List Nat := (cp x).map fun c => (cp a).idxOf c
theorem lets_lt {a x : Str} (h : ∀ c ∈ cp x, c ∈ cp a) : ∀ b ∈ lets a x, b < (cp a).length := fun b hb => by
  obtain ⟨c, hc, rfl⟩ := List.mem_map.mp hb
  exact List.idxOf_lt_length_of_mem (h c hc)
abbrev sBehind : Stmt := top 17
def spBehind (K : PySem.W.Frag) : Sp := fun vs H Q _ => ∃ (a x : Str) (v : V) (rows : List (List Nat)) (s : Nat), vs = [.str a, v, nI s, .str x] ∧ RowsAt K H v rows ∧ Square rows (cp a).length ∧ s < rows.length ∧ (∀ c ∈ cp x, c ∈ cp a) ∧ Q (nI (led rows (lets a x) s)) H
theorem led_snoc (rows : List (List Nat)) (w : List Nat) (a s : Nat) : led rows (w ++ [a]) s = nextOf rows a (led rows w s) := by
  unfold led
  rw [List.foldl_append]
  rfl
section
variable {P : Program} {w : World} {K : PySem.W.Frag} {mg : Str → Option Value} {base : Heap}
theorem scBehind : FnScope ["letters", "rows", "state", "text", "letter"] ["letters", "rows", "state", "text"] (defScope sBehind) := ⟨rfl, rfl, rfl, by decide +kernel, rfl, by decide +kernel, by decide +kernel⟩
theorem ok_behind {f : Addr} {fd : FuncData} (F : Fun K "state_behind" "state_behind" sBehind f fd) : FnOk P w K mg base CX0 1 f fd ["letters", "rows", "state", "text"] (spBehind K) := by
  refine F.ok scBehind (fun vs H Q E h => ?_) (fun cdv A outer s H vs Q E hr h => ?_)
  · obtain ⟨a, x, v, rows, st, rfl, _⟩ := h
    rfl
  obtain ⟨a, x, v, rows, st, rfl, hR, sq, hs, hx, q⟩ := h
  refine ⟨_, pss_cons (ps_for PassesOwn.never rfl (pi_str (pv 3)) (pg_name (i := 4) scBehind.nd rfl (Or.inl rfl))
      (pss_one (ps_set (i := 2) scBehind.nd rfl (Or.inl rfl) (pe_ix ix_tup (pe_ix ix_tup (pv 1) (pv 2) (fun _ _ => rfl)) (pe_bm PySem.F.plainAttrs_str PySem.F.slot_str_index PySem.F.type_str_index mt_sindex (pv 0) (pa_cons (pv 4) pa_nil)) (fun _ _ => rfl)))))
    (pss_one (ps_ret (pv 2))), ?_⟩
  refine ⟨_, rfl, x, rfl, ?_⟩
  refine for_it walk_str (fun i σ H' => H' = H ∧ ∃ v4 : Option V, σ = [some (.str a), some v, some (nI (led rows ((lets a x).take i) st)), some (.str x), v4]) ⟨rfl, none, rfl⟩ (fun _ _ _ _ _ => trivial) ?_ ?_
  · rintro i y σ H1 H2 hi ⟨rfl, v4, rfl⟩ ⟨rfl, c, hc, rfl⟩
    have hc' : (cp x)[i]? = some c := by rw [Array.getElem?_toList]; exact hc
    have hm := hx c (List.mem_of_getElem? hc')
    have hl : (lets a x)[i]? = some ((cp a).idxOf c) := by unfold lets; rw [List.getElem?_map, hc']; rfl
    have hlt := led_lt sq ((lets a x).take i) st (fun b hb => lets_lt hx b (List.mem_of_mem_take hb)) hs
    obtain ⟨va, bs, b, rfl, hva, hb, hrow⟩ := hR.row hlt
    obtain ⟨rest, ho⟩ := sign_index hm
    have hn := next_at (rows := rows) (a := (cp a).idxOf c) hlt fun r hr => by rw [sq.wide r hr]; exact List.idxOf_lt_length_of_mem hm
    refine ⟨_, rfl, _, rfl, va, bs, _, .ref b, rfl, rfl, hva, atI_nat hb, ?_⟩
    refine ⟨_, rfl, rfl, _, rfl, a, ⟨#[c]⟩, (cp a).idxOf c, rest, rfl, rfl, ho, b, _, _, nI (nextOf rows ((cp a).idxOf c) (led rows ((lets a x).take i) st)), rfl, rfl, hrow, atI_nat (by rw [List.getElem?_map, hn]; rfl), rfl, some (.str ⟨#[c]⟩), ?_⟩
    rw [List.take_add_one, hl]
    show _ = [_, _, some (nI (led rows (_ ++ [_]) st)), _, _]
    rw [led_snoc]
    rfl
  · rintro σ H1 ⟨rfl, v4, rfl⟩
    have e : (lets a x).take x.cps.size = lets a x := List.take_of_length_le (by unfold lets; rw [List.length_map, Array.length_toList]; exact Nat.le_refl _)
    rw [e]
    exact ⟨_, rfl, q⟩
end
end Vf

set_option Elab.async false
set_option linter.all false
set_option maxRecDepth 100000
set_option maxHeartbeats 4000000
namespace Vf
open PySem PySem.Spec PyProof.Rows L2 L2.Vx Vs
/-! ### what kind of value -/
def tyD : PyData → String
  | .none => "NoneType"
  | .bool _ => "bool"
  | .int _ => "int"
  | .str _ => "str"
  | .list _ => "list"
  | .tuple _ => "tuple"
  | .dict _ => "dict"
theorem dt_ty {K : PySem.W.Frag} {H : Hp} {S : Addr → Prop} {v : V} {D : PyData} (h : Dt H S v D) : TyX K H v (.type (tyD D)) := by
  cases h with
  | flat e =>
    cases v with
    | non => cases (show D = .none from e); exact .base .non
    | bl b => cases (show D = .bool b from e); exact .base (.bl b)
    | int i => cases (show D = .int i from e); exact .base (.int i)
    | str x => cases (show D = .str x from e); exact .base (.str x)
    | byt b => exact (show False from e).elim
    | flt b => exact (show False from e).elim
    | ref b => exact (show False from e).elim
    | ty b => exact (show False from e).elim
  | lst e _ _ => exact .base (.lst e)
  | tup e _ _ => exact .base (.tup e)
  | dct e _ _ => exact .base (.dK e)
/-- isinstance of such a value, one of four types -/
def isD (n : String) (D : PyData) : Bool := (n == "int" && tyD D == "bool") || tyD D == n
theorem kitTab : ∀ a ∈ ["NoneType", "bool", "int", "str", "list", "tuple", "dict"], ∀ n ∈ ["int", "bool", "str", "tuple"], kitB a n = some ((n == "int" && a == "bool") || a == n) := by decide +kernel
theorem tyD_mem (D : PyData) : tyD D ∈ ["NoneType", "bool", "int", "str", "list", "tuple", "dict"] := by
  cases D <;> simp [tyD]
theorem kit_D {K : PySem.W.Frag} (D : PyData) {n : String} (hn : n = "int" ∨ n = "bool" ∨ n = "str" ∨ n = "tuple") : PySem.W.kitOne K (.type (tyD D)) (.type n) = some (isD n D) :=
  kit_ty (kitTab _ (tyD_mem D) n (by rcases hn with rfl | rfl | rfl | rfl <;> simp))
def isStateD (m : Nat) : PyData → Bool
  | .int i => decide (0 ≤ i) && decide (i < m)
  | _ => false
def isRowD (k m : Nat) : PyData → Bool
  | .tuple ds => decide (ds.length = k) && ds.all (isStateD m)
  | _ => false
def isRowsD (k : Nat) : PyData → Bool
  | .tuple ds => decide (0 < ds.length) && ds.all (isRowD k ds.length)
  | _ => false
abbrev sWhole : Stmt := top 8
abbrev sState : Stmt := top 11
abbrev sRow : Stmt := top 12
abbrev sRows : Stmt := top 13
def isInt : PyData → Bool
  | .int _ => true
  | _ => false
/-- a def that asks one thing of any value, with numbers behind it -/
def spAsk (g : PyData → Bool) : Sp := fun vs H Q _ => ∃ (v : V) (D : PyData) (S : Addr → Prop), vs = [v] ∧ Dt H S v D ∧ ∀ H', Same H H' → Q (.bl (g D)) H'
def spAsk1 (g : Nat → PyData → Bool) : Sp := fun vs H Q _ => ∃ (v : V) (D : PyData) (S : Addr → Prop) (m : Nat), vs = [v, nI m] ∧ Dt H S v D ∧ ∀ H', Same H H' → Q (.bl (g m D)) H'
def spAsk2 (g : Nat → Nat → PyData → Bool) : Sp := fun vs H Q _ => ∃ (v : V) (D : PyData) (S : Addr → Prop) (m n : Nat), vs = [v, nI m, nI n] ∧ Dt H S v D ∧ n ≤ 100000 ∧ (∀ ds, D = .tuple ds → ds.length ≤ 100000) ∧ ∀ H', Same H H' → Q (.bl (g m n D)) H'
structure TxtI (mg : Str → Option Value) : Prop where
  isi : mg "isinstance" = none
  int : mg "int" = none
  bool : mg "bool" = none
  tuple : mg "tuple" = none
  len : mg "len" = none
  all : mg "all" = none
section
variable {P : Program} {w : World} {K : PySem.W.Frag} {mg : Str → Option Value} {base : Heap}
theorem scWhole : FnScope ["thing"] ["thing"] (defScope sWhole) := ⟨rfl, rfl, rfl, by decide +kernel, rfl, by decide +kernel, by decide +kernel⟩
theorem ok_whole {f : Addr} {fd : FuncData} (F : Fun K "is_whole" "is_whole" sWhole f fd) (T : TxtI mg) : FnOk P w K mg base CX0 1 f fd ["thing"] (spAsk isInt) := by
  refine F.ok scWhole (fun vs H Q E h => ?_) (fun cdv A outer s H vs Q E hr h => ?_)
  · obtain ⟨v, D, S, rfl, _⟩ := h
    rfl
  obtain ⟨v, D, S, rfl, hd, q⟩ := h
  refine ⟨_, pss_one (ps_ret (pe_and (pe_callB call_isi (by rfl) T.isi (by decide +kernel) (pa_cons (pv 0) (pa_cons (pe_bltn (v := .ty "int") (u := .type "int") (by rfl) T.int (by decide +kernel) rfl) pa_nil)))
      (pe_one (pe_not (pe_callB call_isi (by rfl) T.isi (by decide +kernel) (pa_cons (pv 0) (pa_cons (pe_bltn (v := .ty "bool") (u := .type "bool") (by rfl) T.bool (by decide +kernel) rfl) pa_nil))))))), ?_⟩
  have t := dt_ty (K := K) hd
  have q' := q H (Same.refl H)
  refine ⟨_, rfl, _, _, _, _, _, rfl, .ty _, t, kit_D D (.inl rfl), _, rfl, ?_⟩
  cases D <;> first
    | exact q'
    | exact ⟨_, rfl, _, _, _, _, _, rfl, .ty _, t, kit_D _ (.inr (.inl rfl)), _, rfl, q'⟩
theorem scState : FnScope ["thing", "many"] ["thing", "many"] (defScope sState) := ⟨rfl, rfl, rfl, by decide +kernel, rfl, by decide +kernel, by decide +kernel⟩
theorem ok_state {f fW : Addr} {fd fdW : FuncData} (F : Fun K "is_state" "is_state" sState f fd) (GW : FnOk P w K mg base CX0 1 fW fdW ["thing"] (spAsk isInt)) (bW : Binds K fdW ["thing"] []) (kW : PySem.W.keepIn K (.ref fW) = true) (mW : mg "is_whole" = some (.ref fW)) :
    FnOk P w K mg base CX0 2 f fd ["thing", "many"] (spAsk1 isStateD) := by
  refine F.ok scState (fun vs H Q E h => ?_) (fun cdv A outer s H vs Q E hr h => ?_)
  · obtain ⟨v, D, S, m, rfl, _⟩ := h
    rfl
  obtain ⟨v, D, S, m, rfl, hd, q⟩ := h
  refine ⟨_, pss_one (ps_ret (pe_and (pe_call GW hr rfl mW kW bW .nil pass0 (pa_cons (pv 0) pa_nil)) (pe_one (pe_chain op_le op_lt pe_int (pv 0) (pv 1))))), ?_⟩
  refine ⟨_, rfl, v, D, S, rfl, hd, fun H1 s1 => ⟨_, rfl, ?_⟩⟩
  have q' := q H1 s1
  cases hd with
  | flat e =>
    cases v with
    | non => cases (show D = .none from e); exact q'
    | bl b => cases (show D = .bool b from e); exact q'
    | int i =>
      cases (show D = .int i from e)
      refine ⟨_, rfl, _, _, rfl, rfl, _, rfl, ?_⟩
      refine ite2 (fun c => ⟨_, rfl, _, _, rfl, rfl, ?_⟩) (fun c => ?_)
      · have e2 : isStateD m (.int i) = decide (i < (m : Int)) := by show (decide (0 ≤ i) && _) = _; rw [c, Bool.true_and]
        rw [e2] at q'
        exact q'
      · have e2 : isStateD m (.int i) = false := by
          show (decide (0 ≤ i) && _) = _
          cases z : decide (0 ≤ i) with
          | false => rfl
          | true => exact absurd z c
        rw [e2] at q'
        exact q'
    | str x => cases (show D = .str x from e); exact q'
    | byt b => exact (show False from e).elim
    | flt b => exact (show False from e).elim
    | ref b => exact (show False from e).elim
    | ty b => exact (show False from e).elim
  | lst _ _ _ => exact q'
  | tup _ _ _ => exact q'
  | dct _ _ _ => exact q'
end
end Vf

set_option Elab.async false
set_option linter.all false
set_option maxRecDepth 100000
set_option maxHeartbeats 4000000
namespace Vf
open PySem PySem.Spec PyProof.Rows L2 L2.Vx Vs
/-! ### rows -/
theorem dtA_len {H : Hp} {S : Addr → Prop} : ∀ {vs : List V} {ds : List PyData}, DtAll H S vs ds → vs.length = ds.length
  | _, _, .nil => rfl
  | _, _, .cons _ r => congrArg (· + 1) (dtA_len r)
theorem dtA_at {H : Hp} {S : Addr → Prop} : ∀ {vs : List V} {ds : List PyData}, DtAll H S vs ds → ∀ {i : Nat} {v : V}, vs[i]? = some v → ∃ d, ds[i]? = some d ∧ Dt H S v d
  | _, _, .cons h _, 0, _, e => ⟨_, rfl, (Option.some.inj e) ▸ h⟩
  | _, _, .cons _ r, _ + 1, _, e => dtA_at r (i := _) e
theorem dt_same {H H' : Hp} {S : Addr → Prop} {v : V} {d : PyData} (h : Dt H S v d) (s : Same H H') : Dt H' S v d := h.mono (fun a o _ e => s a o e) (fun _ _ z _ => z)
structure TxtR (mg : Str → Option Value) : Prop where
  all : mg "all" = none
  isi : mg "isinstance" = none
  tuple : mg "tuple" = none
  len : mg "len" = none
/-- whether a tuple has so many values, each a state -/
def spRow : Sp := fun vs H Q _ => ∃ (v : V) (D : PyData) (S : Addr → Prop) (m n : Nat), vs = [v, nI m, nI n] ∧ m ≤ 100000 ∧ Dt H S v D ∧ ∀ H', Same H H' → Q (.bl (isRowD m n D)) H'
section
variable {P : Program} {w : World} {K : PySem.W.Frag} {mg : Str → Option Value} {base : Heap}
theorem scRow : FnScope ["thing", "width", "many", "target"] ["thing", "width", "many"] (defScope sRow) := ⟨rfl, rfl, rfl, by decide +kernel, rfl, by decide +kernel, by decide +kernel⟩
theorem ok_row {f fS : Addr} {fd fdS : FuncData} (F : Fun K "is_row" "is_row" sRow f fd) (GS : FnOk P w K mg base CX0 2 fS fdS ["thing", "many"] (spAsk1 isStateD)) (bS : Binds K fdS ["thing", "many"] []) (kS : PySem.W.keepIn K (.ref fS) = true) (mS : mg "is_state" = some (.ref fS)) (T : TxtR mg) :
    FnOk P w K mg base CX0 3 f fd ["thing", "width", "many"] spRow := by
  refine F.ok scRow (fun vs H Q E h => ?_) (fun cdv A outer s H vs Q E hr h => ?_)
  · obtain ⟨v, D, S, m, n, rfl, _⟩ := h
    rfl
  obtain ⟨v, D, S, m, n, rfl, hm, hd, q⟩ := h
  refine ⟨_, pss_one (ps_ret (pe_and (pe_callB call_isi (by rfl) T.isi (by decide +kernel) (pa_cons (pv 0) (pa_cons (pe_bltn (v := .ty "tuple") (u := .type "tuple") (by rfl) T.tuple (by decide +kernel) rfl) pa_nil)))
      (pe_and (pe_cmpR op_eq (pe_callB call_len_seq (by rfl) T.len PySem.boot_len (pa_cons (pv 0) pa_nil)) (pv 1) (by rfl))
      (pe_one (pe_callB (cr_all rfl) (by rfl) T.all (by decide +kernel) (pa_cons (pe_lc (own := [("target", 3)]) (g := gName 3) (tt := tYes) rfl scRow.nd (pi_tup (pv 0))
        (blkOk_by (N := ["thing", "width", "many", "target"]) (sc := defScope sRow) (by decide +kernel)) (fun _ _ _ _ _ => pg_name (i := 3) scRow.nd rfl (Or.inl rfl)) (fun _ _ _ _ _ => pts_nil)
        (fun _ _ _ _ _ => by exact pe_call GS hr rfl mS kS bS .nil pass0 (pa_cons (pv 3) (pa_cons (pv 2) pa_nil)))) pa_nil)))))), ?_⟩
  refine ⟨_, rfl, _, _, _, _, _, rfl, .ty _, dt_ty hd, kit_D D (.inr (.inr (.inr rfl))), _, rfl, ?_⟩
  have q' := q H (Same.refl H)
  cases hd with
  | flat e =>
    cases v with
    | non => cases (show D = .none from e); exact q'
    | bl b => cases (show D = .bool b from e); exact q'
    | int i => cases (show D = .int i from e); exact q'
    | str x => cases (show D = .str x from e); exact q'
    | byt b => exact (show False from e).elim
    | flt b => exact (show False from e).elim
    | ref b => exact (show False from e).elim
    | ty b => exact (show False from e).elim
  | lst _ _ _ => exact q'
  | dct _ _ _ => exact q'
  | @tup a xs ds ea sa da =>
    have hl := dtA_len da
    clear q'
    have done0 : ∀ b, isRowD m n (.tuple ds) = b → ∀ H', Same H H' → Q (.bl b) H' := fun b e H' s' => e ▸ q H' s'
    refine ite2 (fun _ => ?_) (fun z => absurd (show isD "tuple" (PyData.tuple ds) = true from (by decide +kernel : (("tuple" == "int" && "tuple" == "bool") || "tuple" == "tuple") = true)) z)
    refine ⟨_, rfl, a, xs, rfl, .inr (SqT.of ea), _, rfl, rfl, _, rfl, ?_⟩
    have ew : decide (V.int (xs.length : Int) = nI m) = decide (ds.length = m) := by
      rw [Bool.eq_iff_iff, decide_eq_true_iff, decide_eq_true_iff, hl]
      exact ⟨fun z => Int.ofNat.inj (V.int.inj z), fun z => by rw [z]⟩
    rw [ew]
    refine ite2 (fun c => ?_) (fun c => done0 _ ?_ H (Same.refl H))
    · have c' : ds.length = m := of_decide_eq_true c
      refine ⟨_, rfl, a, rfl, ⟨xs, SqT.of ea⟩, fun D hD => ?_⟩
      refine lc_it walk_tup (fun i H' => H' D = some (.lst (((ds.take i).map (isStateD n)).map V.bl)) ∧ Same H H') ⟨upd_same, same_new hD _⟩ (fun i H' _ ⟨_, s'⟩ => SqT.of (s' _ _ ea)) ?_ ?_
      · rintro i v H1 H2 hi ⟨hv, sm⟩ y
        obtain ⟨e, hx⟩ := y
        subst e
        obtain ⟨d, hdd, dd⟩ := dtA_at da hx
        refine ⟨rfl, _, rfl, _, rfl, v, d, S, n, rfl, dt_same dd sm, fun H' s' => ⟨_, s' _ _ hv, ?_, ?_, fun b o e => ?_⟩⟩
        · rw [List.length_map, List.length_map]
          exact Nat.lt_of_le_of_lt (List.length_take_le' _ _) (by rw [c']; exact Nat.lt_of_le_of_lt hm (by decide))
        · rw [upd_same, List.take_add_one, hdd, List.map_append, List.map_append]
          rfl
        · rw [upd_ne (ne_of_none e hD)]
          exact s' _ _ (sm b o e)
      · rintro H1 ⟨hv, sm⟩
        refine ⟨D, _, rfl, SqL.of hv, done0 _ ?_ _ sm⟩
        rw [List.take_of_length_le (by rw [hl]; exact Nat.le_refl _), List.all_map]
        show (_ && _) = _
        rw [c, Bool.true_and]
        rfl
    · show (_ && _) = _
      cases z : decide (ds.length = m) with
      | false => rfl
      | true => exact absurd z c
end
end Vf

set_option Elab.async false
set_option linter.all false
set_option maxRecDepth 100000
set_option maxHeartbeats 4000000
namespace Vf
open PySem PySem.Spec PyProof.Rows L2 L2.Vx Vs
/-! ### all rows -/
theorem len_at {X : Cx} {K : PySem.W.Frag} (e : X.K = K) : CallR X (.builtin "len") (fun xs H Q => ∃ p ys, xs = [.ref p] ∧ (SqL K H p ys ∨ SqT K H p ys) ∧ Q (.int ys.length) H) := e ▸ call_len_seq
def spRows : Sp := fun vs H Q _ => ∃ (v : V) (D : PyData) (S : Addr → Prop) (m : Nat), vs = [v, nI m] ∧ m ≤ 100000 ∧ (∀ ds, D = .tuple ds → ds.length ≤ 100000) ∧ Dt H S v D ∧ ∀ H', Same H H' → Q (.bl (isRowsD m D)) H'
section
variable {P : Program} {w : World} {K : PySem.W.Frag} {mg : Str → Option Value} {base : Heap}
theorem scRows : FnScope ["thing", "width", "row"] ["thing", "width"] (defScope sRows) := ⟨rfl, rfl, rfl, by decide +kernel, rfl, by decide +kernel, by decide +kernel⟩
theorem ok_rows {f fR : Addr} {fd fdR : FuncData} (F : Fun K "is_rows" "is_rows" sRows f fd) (GR : FnOk P w K mg base CX0 3 fR fdR ["thing", "width", "many"] spRow) (bR : Binds K fdR ["thing", "width", "many"] []) (kR : PySem.W.keepIn K (.ref fR) = true) (mR : mg "is_row" = some (.ref fR)) (T : TxtR mg) :
    FnOk P w K mg base CX0 4 f fd ["thing", "width"] spRows := by
  refine F.ok scRows (fun vs H Q E h => ?_) (fun cdv A outer s H vs Q E hr h => ?_)
  · obtain ⟨v, D, S, m, rfl, _⟩ := h
    rfl
  obtain ⟨v, D, S, m, rfl, hm, hb, hd, q⟩ := h
  refine ⟨_, pss_one (ps_ret (pe_and (pe_callB call_isi (by rfl) T.isi (by decide +kernel) (pa_cons (pv 0) (pa_cons (pe_bltn (v := .ty "tuple") (u := .type "tuple") (by rfl) T.tuple (by decide +kernel) rfl) pa_nil)))
      (pe_and (pe_cmp (pc_gt (pe_callB call_len_seq (by rfl) T.len PySem.boot_len (pa_cons (pv 0) pa_nil)) pe_int))
      (pe_one (pe_callB (cr_all rfl) (by rfl) T.all (by decide +kernel) (pa_cons (pe_lc (own := [("row", 2)]) (g := gName 2) (tt := tYes) rfl scRows.nd (pi_tup (pv 0))
        (blkOk_by (N := ["thing", "width", "row"]) (sc := defScope sRows) (by decide +kernel)) (fun _ _ _ _ _ => pg_name (i := 2) scRows.nd rfl (Or.inl rfl)) (fun _ _ _ _ _ => pts_nil)
        (fun _ _ _ _ _ => by exact pe_call GR hr rfl mR kR bR .nil pass0 (pa_cons (pv 2) (pa_cons (pv 1) (pa_cons (pe_callB (len_at (K := K) rfl) (by rfl) T.len PySem.boot_len (pa_cons (pv 0) pa_nil)) pa_nil))))) pa_nil)))))), ?_⟩
  refine ⟨_, rfl, _, _, _, _, _, rfl, .ty _, dt_ty hd, kit_D D (.inr (.inr (.inr rfl))), _, rfl, ?_⟩
  have q' := q H (Same.refl H)
  cases hd with
  | flat e =>
    cases v with
    | non => cases (show D = .none from e); exact q'
    | bl b => cases (show D = .bool b from e); exact q'
    | int i => cases (show D = .int i from e); exact q'
    | str x => cases (show D = .str x from e); exact q'
    | byt b => exact (show False from e).elim
    | flt b => exact (show False from e).elim
    | ref b => exact (show False from e).elim
    | ty b => exact (show False from e).elim
  | lst _ _ _ => exact q'
  | dct _ _ _ => exact q'
  | @tup a xs ds ea sa da =>
    have hl := dtA_len da
    have hb' := hb _ rfl
    clear q'
    have done0 : ∀ b, isRowsD m (.tuple ds) = b → ∀ H', Same H H' → Q (.bl b) H' := fun b e H' s' => e ▸ q H' s'
    refine ite2 (fun _ => ?_) (fun z => absurd (show isD "tuple" (PyData.tuple ds) = true from (by decide +kernel : (("tuple" == "int" && "tuple" == "bool") || "tuple" == "tuple") = true)) z)
    refine ⟨_, rfl, a, xs, rfl, .inr (SqT.of ea), _, _, rfl, rfl, _, rfl, ?_⟩
    have ew : decide ((0 : Int) < (xs.length : Int)) = decide (0 < ds.length) := by
      rw [Bool.eq_iff_iff, decide_eq_true_iff, decide_eq_true_iff, hl]
      omega
    refine ite2 (fun c0 => ?_) (fun c0 => done0 _ ?_ H (Same.refl H))
    · have c : decide (0 < ds.length) = true := ew ▸ c0
      refine ⟨_, rfl, a, rfl, ⟨xs, SqT.of ea⟩, fun D hD => ?_⟩
      refine lc_it walk_tup (fun i H' => H' D = some (.lst (((ds.take i).map (isRowD m ds.length)).map V.bl)) ∧ Same H H') ⟨upd_same, same_new hD _⟩ (fun i H' _ ⟨_, s'⟩ => SqT.of (s' _ _ ea)) ?_ ?_
      · rintro i v H1 H2 hi ⟨hv, sm⟩ y
        obtain ⟨e, hx⟩ := y
        subst e
        obtain ⟨d, hdd, dd⟩ := dtA_at da hx
        refine ⟨rfl, _, rfl, _, rfl, _, rfl, a, xs, rfl, .inr (SqT.of (sm _ _ ea)), v, d, S, m, ds.length, by rw [← hl]; rfl, hm, dt_same dd sm, fun H' s' => ⟨_, s' _ _ hv, ?_, ?_, fun b o e => ?_⟩⟩
        · rw [List.length_map, List.length_map]
          exact Nat.lt_of_le_of_lt (List.length_take_le' _ _) (Nat.lt_of_le_of_lt hb' (by decide))
        · rw [upd_same, List.take_add_one, hdd, List.map_append, List.map_append]
          rfl
        · rw [upd_ne (ne_of_none e hD)]
          exact s' _ _ (sm b o e)
      · rintro H1 ⟨hv, sm⟩
        refine ⟨D, _, rfl, SqL.of hv, done0 _ ?_ _ sm⟩
        rw [List.take_of_length_le (by rw [hl]; exact Nat.le_refl _), List.all_map]
        show (_ && _) = _
        rw [c, Bool.true_and]
        rfl
    · have c : ¬ decide (0 < ds.length) = true := ew ▸ c0
      show (_ && _) = _
      cases z : decide (0 < ds.length) with
      | false => rfl
      | true => exact absurd z c
end
end Vf

set_option Elab.async false
set_option linter.all false
set_option maxRecDepth 100000
set_option maxHeartbeats 4000000
namespace Vf
open PySem PySem.Spec PyProof.Rows L2 L2.Vx Vs
/-! ### ascending numbers -/
abbrev sAsc : Stmt := top 9
def ascN (xs : List Nat) : Bool := ((List.range (xs.length - 1)).map fun i => decide (xs.getD i 0 < xs.getD (i + 1) 0)).all id
def spAscT (K : PySem.W.Frag) : Sp := fun vs H Q _ => ∃ (a : Addr) (xs : List Nat), vs = [.ref a] ∧ H a = some (.tup (xs.map nI)) ∧ xs.length ≤ 100000 ∧ ∀ H', Same H H' → Q (.bl (ascN xs)) H'
theorem walk_zipT {K : PySem.W.Frag} {a b : Addr} {xs ys : List V} {n : Nat} (hn : n = min xs.length ys.length) : Walk (RZ.ItzT K a b) n (fun H => SqT K H a xs ∧ SqT K H b ys) (YPair (fun i => xs[i]?) (fun i => ys[i]?)) := by
  refine ⟨fun i _ hi q => ⟨xs, ys, xs[i]'(by omega), ys[i]'(by omega), q.1, q.2, List.getElem?_eq_getElem _, List.getElem?_eq_getElem _⟩, fun _ q => ⟨xs, ys, q.1, q.2, by omega⟩, fun i H v H' _ q z => ?_⟩
  obtain ⟨T, x, y, h1, h2, h3, h4, h5⟩ := z
  exact ⟨T, x, y, h1, h2, h3, h4 xs q.1, h5 ys q.2⟩
theorem cutV1 (xs : List V) : cutV xs (some 1) none = xs.drop 1 := by
  unfold cutV
  rw [show HT.sIx xs.length 0 (some 1) = min 1 xs.length from HT.sIx_nat xs.length 0 1, HT.sIx_none]
  cases xs with
  | nil => rfl
  | cons x r =>
    rw [show min 1 (x :: r).length = 1 by rw [List.length_cons]; omega]
    exact List.take_of_length_le (by rw [List.length_drop]; exact Nat.le_refl _)
theorem nI_item {xs : List Nat} {i : Nat} {y : V} (e : (xs.map nI)[i]? = some y) : i < xs.length ∧ y = nI (xs.getD i 0) := by
  rw [List.getElem?_map] at e
  obtain ⟨n, hn, rfl⟩ := Option.map_eq_some_iff.mp e
  refine ⟨(List.getElem?_eq_some_iff.mp hn).1, ?_⟩
  rw [List.getD_eq_getElem?_getD, hn]
  rfl
structure TxtZ (mg : Str → Option Value) : Prop where
  all : mg "all" = none
  zip : mg "zip" = none
section
variable {P : Program} {w : World} {K : PySem.W.Frag} {mg : Str → Option Value} {base : Heap}
theorem scAsc : FnScope ["things", "one", "other"] ["things"] (defScope sAsc) := ⟨rfl, rfl, rfl, by decide +kernel, rfl, by decide +kernel, by decide +kernel⟩
theorem ok_ascT {f : Addr} {fd : FuncData} (F : Fun K "is_ascending" "is_ascending" sAsc f fd) (T : TxtZ mg) : FnOk P w K mg base CX0 1 f fd ["things"] (spAscT K) := by
  refine F.ok scAsc (fun vs H Q E h => ?_) (fun cdv A outer s H vs Q E hr h => ?_)
  · obtain ⟨a, xs, rfl, _⟩ := h
    rfl
  obtain ⟨a, xs, rfl, hx, hn, q⟩ := h
  refine ⟨_, pss_one (ps_ret (pe_callB (cr_all rfl) (by rfl) T.all (by decide +kernel) (pa_cons (pe_lc (own := [("one", 1), ("other", 2)]) (g := gTup K 2 (gCons (gName 1) (gCons (gName 2) gNil))) (tt := tYes) rfl scAsc.nd
      (RZ.pi_zipA (by rfl) T.zip (pa_cons (pv 0) (pa_cons (pe_slice sl_tupA (pv 0) (po_some pe_int) po_none) pa_nil)))
      (blkOk_by (N := ["things", "one", "other"]) (sc := defScope sAsc) (by decide +kernel)) (fun _ _ _ _ _ => pg_tup rfl (pgs_cons (pg_name (i := 1) scAsc.nd rfl (Or.inl rfl)) (pgs_cons (pg_name (i := 2) scAsc.nd rfl (Or.inl rfl)) pgs_nil))) (fun _ _ _ _ _ => pts_nil)
      (fun _ _ _ _ _ => pe_cmpR op_lt (pv 1) (pv 2) (nomark _))) pa_nil))), ?_⟩
  refine ⟨_, rfl, _, rfl, _, rfl, a, xs.map nI, rfl, SqT.of hx, fun hw => ?_, fun hw p hp => ?_⟩
  · have hz : xs.map nI = (xs.map nI).drop 1 := by
      have z := hw.1
      rw [show HT.sIx (xs.map nI).length 0 (some 1) = min 1 (xs.map nI).length from HT.sIx_nat _ 0 1] at z
      cases xs with
      | nil => rfl
      | cons x r => rw [List.length_map, List.length_cons] at z; omega
    have hy := hx
    rw [hz] at hy
    have sm0 : Same H H := Same.refl H
    rename Hp => H1
    refine ⟨a, a, _, _, rfl, .inr ⟨SqT.of hx, SqT.of hy, fun D hD => ?_⟩⟩
    refine lc_it (walk_zipT (n := xs.length - 1) (by rw [List.length_drop, List.length_map]; omega)) (fun i H' => H' D = some (.lst (((List.range i).map fun i => decide (xs.getD i 0 < xs.getD (i + 1) 0)).map V.bl)) ∧ Same H1 H') ⟨upd_same, same_new hD _⟩ (fun i H' _ ⟨_, s'⟩ => ⟨SqT.of (s' _ _ hx), SqT.of (s' _ _ hy)⟩) ?_ ?_
    · rintro i v H2 H3 hi ⟨hv, sm⟩ ⟨T, x, y, rfl, hT, rfl, hc, hd⟩
      have hd : (List.drop 1 (xs.map nI))[i]? = some y := hd
      rw [List.getElem?_drop] at hd
      obtain ⟨hc1, rfl⟩ := nI_item hc
      obtain ⟨hd1, rfl⟩ := nI_item hd
      refine ⟨T, _, rfl, SqT.of upd_same, rfl, _, _, rfl, _, _, rfl, rfl, rfl, _, rfl, _, rfl, _, _, rfl, rfl, _, (upd_ne (ne_of_none hv hT)).trans hv, ?_, ?_, ?_⟩
      · rw [List.length_map, List.length_map, List.length_range]
        exact Nat.lt_of_lt_of_le (Nat.lt_of_lt_of_le hi (Nat.le_trans (Nat.sub_le _ _) hn)) (by decide)
      · rw [upd_same, List.range_succ, List.map_append, List.map_append]
        have e : decide (((xs.getD i 0 : Nat) : Int) < ((xs.getD (1 + i) 0 : Nat) : Int)) = decide (xs.getD i 0 < xs.getD (i + 1) 0) := by
          rw [Nat.add_comm 1 i, Bool.eq_iff_iff, decide_eq_true_iff, decide_eq_true_iff]
          exact Int.ofNat_lt
        exact congrArg (fun b => some (HO.lst (((List.range i).map fun i => decide (xs.getD i 0 < xs.getD (i + 1) 0)).map V.bl ++ [V.bl b]))) e
      · intro b o e
        rw [upd_ne (ne_of_none e hD)]
        exact (sm.trans (same_new hT _)) b o e
    · rintro H2 ⟨hv, sm⟩
      exact ⟨_, _, rfl, SqL.of hv, q _ (sm0.trans sm)⟩
  · have hy : upd H p (.tup (cutV (xs.map nI) (some 1) none)) p = some (.tup ((xs.map nI).drop 1)) := by rw [upd_same, cutV1]
    have sm0 := same_new hp (.tup (cutV (xs.map nI) (some 1) none))
    have hx' := sm0 _ _ hx
    clear hx hp hw
    generalize upd H p (.tup (cutV (xs.map nI) (some 1) none)) = H1 at hy sm0 hx' ⊢
    have hx := hx'
    refine ⟨a, p, _, _, rfl, .inr ⟨SqT.of hx, SqT.of hy, fun D hD => ?_⟩⟩
    refine lc_it (walk_zipT (n := xs.length - 1) (by rw [List.length_drop, List.length_map]; omega)) (fun i H' => H' D = some (.lst (((List.range i).map fun i => decide (xs.getD i 0 < xs.getD (i + 1) 0)).map V.bl)) ∧ Same H1 H') ⟨upd_same, same_new hD _⟩ (fun i H' _ ⟨_, s'⟩ => ⟨SqT.of (s' _ _ hx), SqT.of (s' _ _ hy)⟩) ?_ ?_
    · rintro i v H2 H3 hi ⟨hv, sm⟩ ⟨T, x, y, rfl, hT, rfl, hc, hd⟩
      have hd : (List.drop 1 (xs.map nI))[i]? = some y := hd
      rw [List.getElem?_drop] at hd
      obtain ⟨hc1, rfl⟩ := nI_item hc
      obtain ⟨hd1, rfl⟩ := nI_item hd
      refine ⟨T, _, rfl, SqT.of upd_same, rfl, _, _, rfl, _, _, rfl, rfl, rfl, _, rfl, _, rfl, _, _, rfl, rfl, _, (upd_ne (ne_of_none hv hT)).trans hv, ?_, ?_, ?_⟩
      · rw [List.length_map, List.length_map, List.length_range]
        exact Nat.lt_of_lt_of_le (Nat.lt_of_lt_of_le hi (Nat.le_trans (Nat.sub_le _ _) hn)) (by decide)
      · rw [upd_same, List.range_succ, List.map_append, List.map_append]
        have e : decide (((xs.getD i 0 : Nat) : Int) < ((xs.getD (1 + i) 0 : Nat) : Int)) = decide (xs.getD i 0 < xs.getD (i + 1) 0) := by
          rw [Nat.add_comm 1 i, Bool.eq_iff_iff, decide_eq_true_iff, decide_eq_true_iff]
          exact Int.ofNat_lt
        exact congrArg (fun b => some (HO.lst (((List.range i).map fun i => decide (xs.getD i 0 < xs.getD (i + 1) 0)).map V.bl ++ [V.bl b]))) e
      · intro b o e
        rw [upd_ne (ne_of_none e hD)]
        exact (sm.trans (same_new hT _)) b o e
    · rintro H2 ⟨hv, sm⟩
      exact ⟨_, _, rfl, SqL.of hv, q _ (sm0.trans sm)⟩
end
end Vf

set_option Elab.async false
set_option linter.all false
set_option maxRecDepth 100000
set_option maxHeartbeats 4000000
namespace Vf
open PySem PySem.Spec PyProof.Rows L2 L2.Vx Vs
/-! ### ends -/
def natD : PyData → Nat
  | .int i => i.toNat
  | _ => 0
def isEndsD (m : Nat) : PyData → Bool
  | .tuple ds => ds.all (isStateD m) && ascN (ds.map natD)
  | _ => false
theorem dt_state {H : Hp} {S : Addr → Prop} {v : V} {d : PyData} {m : Nat} (h : Dt H S v d) (c : isStateD m d = true) : v = nI (natD d) ∧ natD d < m := by
  cases h with
  | flat e =>
    cases v with
    | non => cases (show d = .none from e); exact nomatch c
    | bl b => cases (show d = .bool b from e); exact nomatch c
    | int i =>
      cases (show d = .int i from e)
      have c' : (decide (0 ≤ i) && decide (i < m)) = true := c
      rw [Bool.and_eq_true, decide_eq_true_iff, decide_eq_true_iff] at c'
      refine ⟨?_, ?_⟩
      · show V.int i = V.int ((i.toNat : Nat) : Int)
        rw [Int.toNat_of_nonneg c'.1]
      · show i.toNat < m
        omega
    | str x => cases (show d = .str x from e); exact nomatch c
    | byt b => exact (show False from e).elim
    | flt b => exact (show False from e).elim
    | ref b => exact (show False from e).elim
    | ty b => exact (show False from e).elim
  | lst _ _ _ => exact nomatch c
  | tup _ _ _ => exact nomatch c
  | dct _ _ _ => exact nomatch c
theorem dt_states {H : Hp} {S : Addr → Prop} {m : Nat} : ∀ {vs : List V} {ds : List PyData}, DtAll H S vs ds → ds.all (isStateD m) = true → vs = (ds.map natD).map nI ∧ ∀ x ∈ ds.map natD, x < m
  | _, _, .nil, _ => ⟨rfl, fun _ h => nomatch h⟩
  | _, _, .cons h r, c => by
    rw [List.all_cons, Bool.and_eq_true] at c
    obtain ⟨e1, l1⟩ := dt_state h c.1
    obtain ⟨e2, l2⟩ := dt_states r c.2
    refine ⟨?_, ?_⟩
    · rw [e1, e2]
      rfl
    · intro x hx
      rw [List.map_cons, List.mem_cons] at hx
      rcases hx with rfl | hx
      · exact l1
      · exact l2 x hx
abbrev sEnds : Stmt := top 14
def spEnds : Sp := fun vs H Q _ => ∃ (v : V) (D : PyData) (S : Addr → Prop) (m : Nat), vs = [v, nI m] ∧ (∀ ds, D = .tuple ds → ds.length ≤ 100000) ∧ Dt H S v D ∧ ∀ H', Same H H' → Q (.bl (isEndsD m D)) H'
section
variable {P : Program} {w : World} {K : PySem.W.Frag} {mg : Str → Option Value} {base : Heap}
theorem scEnds : FnScope ["thing", "many", "end"] ["thing", "many"] (defScope sEnds) := ⟨rfl, rfl, rfl, by decide +kernel, rfl, by decide +kernel, by decide +kernel⟩
theorem ok_ends {f fS fA : Addr} {fd fdS fdA : FuncData} (F : Fun K "is_ends" "is_ends" sEnds f fd)
    (GS : FnOk P w K mg base CX0 2 fS fdS ["thing", "many"] (spAsk1 isStateD)) (bS : Binds K fdS ["thing", "many"] []) (kS : PySem.W.keepIn K (.ref fS) = true) (mS : mg "is_state" = some (.ref fS))
    (GA : FnOk P w K mg base CX0 1 fA fdA ["things"] (spAscT K)) (bA : Binds K fdA ["things"] []) (kA : PySem.W.keepIn K (.ref fA) = true) (mA : mg "is_ascending" = some (.ref fA)) (T : TxtR mg) :
    FnOk P w K mg base CX0 3 f fd ["thing", "many"] spEnds := by
  refine F.ok scEnds (fun vs H Q E h => ?_) (fun cdv A outer s H vs Q E hr h => ?_)
  · obtain ⟨v, D, S, m, rfl, _⟩ := h
    rfl
  obtain ⟨v, D, S, n, rfl, hb, hd, q⟩ := h
  refine ⟨_, pss_one (ps_ret (pe_and (pe_callB call_isi (by rfl) T.isi (by decide +kernel) (pa_cons (pv 0) (pa_cons (pe_bltn (v := .ty "tuple") (u := .type "tuple") (by rfl) T.tuple (by decide +kernel) rfl) pa_nil)))
      (pe_and (pe_callB (cr_all rfl) (by rfl) T.all (by decide +kernel) (pa_cons (pe_lc (own := [("end", 2)]) (g := gName 2) (tt := tYes) rfl scEnds.nd (pi_tup (pv 0))
        (blkOk_by (N := ["thing", "many", "end"]) (sc := defScope sEnds) (by decide +kernel)) (fun _ _ _ _ _ => pg_name (i := 2) scEnds.nd rfl (Or.inl rfl)) (fun _ _ _ _ _ => pts_nil)
        (fun _ _ _ _ _ => by exact pe_call GS hr rfl mS kS bS .nil pass0 (pa_cons (pv 2) (pa_cons (pv 1) pa_nil)))) pa_nil))
      (pe_one (pe_call GA (hr.mono (by decide)) rfl mA kA bA .nil pass0 (pa_cons (pv 0) pa_nil)))))), ?_⟩
  refine ⟨_, rfl, _, _, _, _, _, rfl, .ty _, dt_ty hd, kit_D D (.inr (.inr (.inr rfl))), _, rfl, ?_⟩
  have q' := q H (Same.refl H)
  cases hd with
  | flat e =>
    cases v with
    | non => cases (show D = .none from e); exact q'
    | bl b => cases (show D = .bool b from e); exact q'
    | int i => cases (show D = .int i from e); exact q'
    | str x => cases (show D = .str x from e); exact q'
    | byt b => exact (show False from e).elim
    | flt b => exact (show False from e).elim
    | ref b => exact (show False from e).elim
    | ty b => exact (show False from e).elim
  | lst _ _ _ => exact q'
  | dct _ _ _ => exact q'
  | @tup a xs ds ea sa da =>
    have hl := dtA_len da
    have hb' := hb _ rfl
    clear q'
    have done0 : ∀ b, isEndsD n (.tuple ds) = b → ∀ H', Same H H' → Q (.bl b) H' := fun b e H' s' => e ▸ q H' s'
    refine ite2 (fun _ => ?_) (fun z => absurd (show isD "tuple" (PyData.tuple ds) = true from (by decide +kernel : (("tuple" == "int" && "tuple" == "bool") || "tuple" == "tuple") = true)) z)
    refine ⟨_, rfl, a, rfl, ⟨xs, SqT.of ea⟩, fun D hD => ?_⟩
    refine lc_it walk_tup (fun i H' => H' D = some (.lst (((ds.take i).map (isStateD n)).map V.bl)) ∧ Same H H') ⟨upd_same, same_new hD _⟩ (fun i H' _ ⟨_, s'⟩ => SqT.of (s' _ _ ea)) ?_ ?_
    · rintro i v H1 H2 hi ⟨hv, sm⟩ y
      obtain ⟨e, hx⟩ := y
      subst e
      obtain ⟨d, hdd, dd⟩ := dtA_at da hx
      refine ⟨rfl, _, rfl, _, rfl, v, d, S, n, rfl, dt_same dd sm, fun H' s' => ⟨_, s' _ _ hv, ?_, ?_, fun b o e => ?_⟩⟩
      · rw [List.length_map, List.length_map]
        exact Nat.lt_of_le_of_lt (List.length_take_le' _ _) (Nat.lt_of_le_of_lt hb' (by decide))
      · rw [upd_same, List.take_add_one, hdd, List.map_append, List.map_append]
        rfl
      · rw [upd_ne (ne_of_none e hD)]
        exact s' _ _ (sm b o e)
    · rintro H1 ⟨hv, sm⟩
      have ea' : (((ds.take xs.length).map (isStateD n)).all id) = ds.all (isStateD n) := by
        rw [List.take_of_length_le (by rw [hl]; exact Nat.le_refl _), List.all_map]
        rfl
      refine ⟨D, _, rfl, SqL.of hv, _, rfl, ?_⟩
      rw [ea']
      refine ite2 (fun c => ?_) (fun c => done0 _ ?_ _ sm)
      · obtain ⟨e1, _⟩ := dt_states da c
        refine ⟨_, rfl, a, ds.map natD, rfl, by rw [← e1]; exact sm _ _ ea, by rw [List.length_map]; exact hb', fun H' s' => done0 _ ?_ _ (sm.trans s')⟩
        show (_ && _) = _
        rw [c, Bool.true_and]
      · show (_ && _) = _
        cases z : ds.all (isStateD n) with
        | false => rfl
        | true => exact absurd z c
end
end Vf

set_option Elab.async false
set_option linter.all false
set_option maxRecDepth 100000
set_option maxHeartbeats 4000000
namespace Vs
open PySem PySem.Spec PyProof.Rows L2
/-! ### zip of two texts -/
def Itzs (x y : Str) : It :=
  ⟨fun i _ => i < x.cps.size ∧ i < y.cps.size, fun i H v H' => ∃ T c d, v = .ref T ∧ H T = none ∧ H' = upd H T (.tup [.str ⟨#[c]⟩, .str ⟨#[d]⟩]) ∧ x.cps[i]? = some c ∧ y.cps[i]? = some d,
    fun i _ => (i ≤ x.cps.size ∧ i ≤ y.cps.size) ∧ (i = x.cps.size ∨ i = y.cps.size)⟩
section
variable {P : Program} {w : World} {K : PySem.W.Frag}
def StZ (x y : Str) (t u : Tok) (z TI TO i1 i2 : Addr) (i : Nat) (h : Heap) : Prop :=
  IsZip h z TI TO .none ∧ IsTupOf2 h TI (.ref i1) (.ref i2) ∧ (∃ a b, IsTupOf2 h TO a b) ∧ h.IsStrIter i1 (strIterType x) x t i ∧ h.IsStrIter i2 (strIterType y) y u i
theorem in5 {c z TI TO i1 i2 : Addr} (h : c ∈ [z, TI, TO, i1, i2]) : c = z ∨ c = TI ∨ c = TO ∨ c = i1 ∨ c = i2 := by simpa using h
theorem StZ.there {x y : Str} {t u : Tok} {z TI TO i1 i2 : Addr} {i : Nat} {h : Heap} (S : StZ x y t u z TI TO i1 i2 i h) (c : Addr) (hc : c ∈ [z, TI, TO, i1, i2]) : ∃ o, h.get? c = some o ∧ ∀ v, o.data ≠ .cell v := by
  obtain ⟨s1, s2, ⟨a, b, s3⟩, ⟨o1, e1, _, d1⟩, ⟨o2, e2, _, d2⟩⟩ := S
  rcases in5 hc with rfl | rfl | rfl | rfl | rfl
  · exact ⟨_, s1, fun _ q => nomatch q⟩
  · exact ⟨_, s2, fun _ q => nomatch q⟩
  · exact ⟨_, s3, fun _ q => nomatch q⟩
  · exact ⟨o1, e1, fun _ q => by rw [d1] at q; cases q⟩
  · exact ⟨o2, e2, fun _ q => by rw [d2] at q; cases q⟩
theorem turn_texts {elts : List Expr} {kk : Nat} {tpos : Pos} {x y : Str} {t u : Tok} {z TI TO i1 i2 : Addr} (D : ZipSep2 z TI TO i1 i2 [i1] [i2]) (tO : TI ≠ TO) :
    Turn P w K (.Tuple elts kk tpos) (Itzs x y) [z, TI, TO, i1, i2] z (StZ x y t u z TI TO i1 i2) where
  mem := by simp
  obj := fun i h st => st.there
  keep := fun i h h' st k => by
    obtain ⟨s1, s2, ⟨a, b, s3⟩, ⟨o1, e1, r1⟩, ⟨o2, e2, r2⟩⟩ := st
    exact ⟨k _ (by simp) _ s1, k _ (by simp) _ s2, ⟨a, b, k _ (by simp) _ s3⟩, ⟨o1, k _ (by simp) _ e1, r1⟩, ⟨o2, k _ (by simp) _ e2, r2⟩⟩
  item := by
    intro X hP hw hK hc i pins s σ H E I hf st hg
    subst hP hw hK
    obtain ⟨s1, s2, ⟨a, b, s3⟩, s4, s5⟩ := id st
    have hh := I.ok.hd hc
    have hT : s.TypeIs (.ref z) "zip" := ⟨_, s1, rfl⟩
    have old : ∀ c ∈ [z, TI, TO, i1, i2], c < s.heap.objs.size := fun c hc => let ⟨o, e, _⟩ := st.there c hc; Heap.lt_size e
    unfold pyNext
    refine wpAny_bind (wpAny_attempt (wpAny_callSpecial?_slot (name := Str.ofString "__next__") hT F.slot_zip_next (wpAny_call_entry F.slot_zip_next hT F.entry_zip_next
      (zipD2_next_item D (Draws.text (by exact hh) i1 x t) (Draws.text (by exact hh) i2 y u) s1 s2 s3 s4 s5 hg.1 hg.2 fun x1 x2 h' tk p1 p2 z' to' s4' s5' tn hsz keep => wpAny_pure ?_) (F.args_zip_next_1 _))))
    obtain ⟨c, tc, hc1, rfl⟩ := p1
    obtain ⟨d, td, hd1, rfl⟩ := p2
    refine ⟨_, rfl, wpAny_letOwnedTupleGo_zip (s := { s with heap := h', toks := tk }) z' fun h2 z2 sb => ?_⟩
    have at2 : ∀ b o, b ≠ z → h'.get? b = some o → h2.get? b = some o := fun b o n e => (sb.2 b n).trans e
    have zn : s.heap.objs.size ≠ z := Nat.ne_of_gt (Heap.lt_size s1)
    have new : ObjOk X.prog X.w (upd H s.heap.objs.size (.tup [.str ⟨#[c]⟩, .str ⟨#[d]⟩])) h2 s.heap.objs.size (.tup [.str ⟨#[c]⟩, .str ⟨#[d]⟩]) :=
      ⟨by show 2 ≤ sizeLine; decide, _, .cons ⟨tc, rfl⟩ (.cons ⟨td, rfl⟩ .nil), ⟨_, at2 _ _ zn tn, rfl, _, rfl⟩⟩
    have all : ∀ c o, c ∉ [z, TI, TO, i1, i2] → s.heap.get? c = some o → h2.get? c = some o := fun c o hb q =>
      at2 c o (fun e => hb (by simp [e])) (keep c o (fun e => hb (by simp [e])) (fun e => hb (by simp [e])) (fun e => hb (by simp [e])) (fun e => hb (by simp [e])) q)
    have I1 := I.turnedNew (t' := tk) (ch := [z, TI, TO, i1, i2]) all hf (Nat.le_refl _) new
    refine ⟨.ref s.heap.objs.size, _, I1, rfl, ⟨_, c, d, rfl, I.hok.fresh (Nat.le_refl _), rfl, hc1, hd1⟩, ⟨z2, ?_, ⟨_, _, at2 _ _ D.TOz to'⟩, ?_, ?_⟩, fun b hb => ?_⟩
    · exact at2 _ _ D.TIz (keep _ _ D.TIz tO D.TIi1 D.TIi2 s2)
    · obtain ⟨o, e, r⟩ := s4'
      exact ⟨o, at2 _ _ D.zi1.symm e, r⟩
    · obtain ⟨o, e, r⟩ := s5'
      exact ⟨o, at2 _ _ D.zi2.symm e, r⟩
    · rw [upd_ne (Nat.ne_of_lt (old b hb))]
      exact (hf b hb).1
  done := by
    intro X hP hw hK hc i pins s σ H E I hf st hg
    subst hP hw hK
    obtain ⟨s1, s2, ⟨a, b, s3⟩, s4, s5⟩ := id st
    have hh := I.ok.hd hc
    have hT : s.TypeIs (.ref z) "zip" := ⟨_, s1, rfl⟩
    unfold pyNext
    refine wpAny_bind (wpAny_attempt (wpAny_callSpecial?_slot (name := Str.ofString "__next__") hT F.slot_zip_next (wpAny_call_entry F.slot_zip_next hT F.entry_zip_next
      (zipD2_next_end D (Draws.text (by exact hh) i1 x t) (Draws.text (by exact hh) i2 y u) s1 s2 s3 s4 s5 hg.1.1 hg.1.2 hg.2 fun h' tk e keep he => ?_) (F.args_zip_next_1 _))))
    obtain ⟨o, ho, hcl⟩ := he
    refine wpAny_bind (wpAny_isInstance (T := "StopIteration") (b := true) ⟨o, ho, hcl⟩ isSubtype_stop (wpAny_pure ⟨rfl, ?_⟩))
    exact I.turnedL (t' := tk) (ch := [z, TI, TO, i1, i2]) (fun c o hb q => keep c o (fun e => hb (by simp [e])) (fun e => hb (by simp [e])) (fun e => hb (by simp [e])) (fun e => hb (by simp [e])) q) hf
  self := fun A i s Q E st h => wpAny_pyIter_zip st.1 h
end
def iZipS (ta : TA) : TI := fun σ H R => ta σ H fun vs H1 => ∃ x y, vs = [.str x, .str y] ∧ R (Itzs x y) H1
theorem pi_zipS {X : Cx} {e e2 : Expr} {ta : TA} {p pos tpos : Pos} {elts : List Expr} {kk : Nat} (hg : Gl X "zip") (hm : X.mg "zip" = none) (ha : PA X [e, e2] ta)
    (hs : starEach [e, e2] X.env = (false, eval e X.env) :: starEach [e2] X.env := by rfl) (hpl : (backTo pos (starEach [e2] X.env)).any (·.1) = false := by rfl) :
    PI X (.Tuple elts kk tpos) (.Call (.Name "zip" p) [e, e2] [] pos) (iZipS ta) := by
  refine ⟨fun pins s σ H R I h => ?_⟩
  refine Call_ (ld_blt I hg hm PyProof.Rows.boot_zip (PyProof.Rows.callWith_type1 (thn (ha.run pos pins s σ H _ I h) fun us s1 q1 => ?_) hs hpl))
  obtain ⟨vs, H1, I1, r1, x, y, rfl, q⟩ := q1
  obtain ⟨u1, u2, rfl, ⟨t, rfl⟩, ⟨u, rfl⟩⟩ := vals2 r1
  refine zip_begins2 (begins_text x t) (begins_text y u) trivial trivial fun h' hz hTI hTO h1 h2 hsz hk => wpAny_pyIter_zip hz ?_
  have I2 : Inv X pins σ H1 { s1 with heap := h' } := I1.kept (t' := s1.toks) hk
  have sep : ZipSep2 (s1.heap.objs.size + 4) (s1.heap.objs.size + 2) (s1.heap.objs.size + 3) s1.heap.objs.size (s1.heap.objs.size + 1) [s1.heap.objs.size] [s1.heap.objs.size + 1] := by
    constructor <;> simp <;> omega
  refine ⟨s1.heap.objs.size + 4, _, _, _, H1, rfl, I2, turn_texts (t := t) (u := u) sep (Nat.ne_of_lt (Nat.lt_succ_self _)), ⟨hz, hTI, ⟨_, _, hTO⟩, ⟨_, h1, rfl, rfl⟩, ⟨_, h2, rfl, rfl⟩⟩, fun c hcm => ?_, q⟩
  have hle : s1.heap.objs.size ≤ c := by
    rcases in5 hcm with z | z | z | z | z <;> rw [z] <;> first | exact Nat.le_refl _ | exact Nat.le_add_right _ _
  exact I1.fpOk hle (I1.hok.fresh hle)
theorem walk_texts {x y : Str} {n : Nat} (hn : n = min x.cps.size y.cps.size) : Walk (Itzs x y) n (fun _ => True) (fun i H v H' => ∃ T c d, v = .ref T ∧ H T = none ∧ H' = upd H T (.tup [.str ⟨#[c]⟩, .str ⟨#[d]⟩]) ∧ x.cps[i]? = some c ∧ y.cps[i]? = some d) := by
  subst hn
  exact ⟨fun i _ hi _ => ⟨by omega, by omega⟩, fun _ _ => ⟨⟨by omega, by omega⟩, by omega⟩, fun _ _ _ _ _ _ y => y⟩
end Vs

set_option Elab.async false
set_option linter.all false
set_option maxRecDepth 100000
set_option maxHeartbeats 4000000
namespace Vf
open PySem PySem.Spec PyProof.Rows L2 L2.Vx Vs
abbrev sLet : Stmt := top 39
abbrev sText : Stmt := top 40
/-! ### the mathematics -/
def stepB (l : List Nat) (i : Nat) : Bool := decide ((l.getD i 0) < l.getD (i + 1) 0)
/-- each sign is less than the next one -/
def rising (l : List Nat) : Bool := (List.range (l.length - 1)).all (stepB l)
def azB (c : Nat) : Bool := decide (97 ≤ c) && decide (c ≤ 122)
def azs (l : List Nat) : Bool := l.all azB
def letB (x : Str) : Bool := decide (1 ≤ x.length) && decide (x.length ≤ 4) && (azs (cp x) && rising (cp x))
def wordB (a x : Str) : Bool := (cp x).all fun c => decide (c ∈ cp a)
theorem lt1 (c d : Nat) : decide (([c] : List Nat) < [d]) = decide (c < d) := by
  by_cases h : c < d
  · rw [decide_eq_true h, decide_eq_true (List.cons_lt_cons_iff.mpr (.inl h))]
  · rw [decide_eq_false h, decide_eq_false fun z => (List.cons_lt_cons_iff.mp z).elim h fun z => absurd z.2 (List.lt_irrefl _)]
/-- a value that is a text y, or no string at all -/
def StrOr (K : PySem.W.Frag) (H : Hp) (v : V) (y : Option Str) : Prop := match y with
  | some x => v = .str x ∧ x.length ≤ 100000 ∧ ∀ c ∈ cp x, c < 128
  | none => ∃ t, TyX K H v t ∧ PySem.W.kitOne K t (.type "str") = some false
theorem cut1 (x : Str) : cp (cutS x (some 1) none) = (cp x).drop 1 := by
  unfold cutS cp
  have e1 : HT.sIx x.length 0 (some 1) = min 1 x.length := HT.sIx_nat _ _ 1
  have e2 : HT.sIx x.length x.length none = x.length := rfl
  have e3 : x.cps.toList.length = x.length := by rw [Array.length_toList]; rfl
  rw [e1, e2]
  show ((x.cps.toList.drop (min 1 x.length)).take (x.length - min 1 x.length)).toArray.toList = _
  rw [List.toList_toArray, List.take_of_length_le (by rw [List.length_drop, e3]; exact Nat.le_refl _)]
  by_cases h : 1 ≤ x.length
  · rw [Nat.min_eq_left h]
  · have z : x.length = 0 := by omega
    rw [z] at e3 ⊢
    rw [List.length_eq_zero_iff.mp e3]
    rfl
theorem sing_at {l : List Nat} {i c : Nat} (h : l[i]? = some c) : l.getD i 0 = c := by rw [List.getD_eq_getElem?_getD, h]; rfl
/-! ### promises -/
def spAsc : Sp := fun vs H Q _ => ∃ x : Str, vs = [.str x] ∧ x.length ≤ 100000 ∧ ∀ H', Same H H' → Q (.bl (rising (cp x))) H'
def spLet (K : PySem.W.Frag) (f : Str → Bool) : Sp := fun vs H Q _ => ∃ v y, vs = [v] ∧ StrOr K H v y ∧ ∀ H', Same H H' → Q (.bl (y.elim false f)) H'
def spText (K : PySem.W.Frag) (f : Str → Str → Bool) : Sp := fun vs H Q _ => ∃ a v y, vs = [.str a, v] ∧ StrOr K H v y ∧ a.length ≤ 4 ∧ ∀ H', Same H H' → Q (.bl (y.elim false (f a))) H'
structure TxtA (mg : Str → Option Value) (fA : Addr) : Prop where
  all : mg "all" = none
  zip : mg "zip" = none
  isi : mg "isinstance" = none
  str : mg "str" = none
  len : mg "len" = none
  asc : mg "is_ascending" = some (.ref fA)
section
variable {P : Program} {w : World} {K : PySem.W.Frag} {mg : Str → Option Value} {base : Heap}
theorem ok_asc {f fA : Addr} {fd : FuncData} (F : Fun K "is_ascending" "is_ascending" sAsc f fd) (T : TxtA mg fA) : FnOk P w K mg base CX0 1 f fd ["things"] spAsc := by
  refine F.ok scAsc (fun vs H Q E h => ?_) (fun cdv A outer s H vs Q E hr h => ?_)
  · obtain ⟨x, rfl, _⟩ := h
    rfl
  obtain ⟨x, rfl, hx, q⟩ := h
  refine ⟨_, pss_one (ps_ret (pe_callB (cr_all rfl) (by rfl) T.all (by decide +kernel) (pa_cons (pe_lc (own := [("one", 1), ("other", 2)]) (g := gTup K 2 (gCons (gName 1) (gCons (gName 2) gNil))) (tt := tYes) rfl scAsc.nd
      (pi_zipS (by rfl) T.zip (pa_cons (pv 0) (pa_cons (pe_slice sl_str (pv 0) (po_some pe_int) po_none) pa_nil)))
      (blkOk_by (N := ["things", "one", "other"]) (sc := defScope sAsc) (by decide +kernel)) (fun _ _ _ _ _ => pg_tup rfl (pgs_cons (pg_name (i := 1) scAsc.nd rfl (Or.inl rfl)) (pgs_cons (pg_name (i := 2) scAsc.nd rfl (Or.inl rfl)) pgs_nil))) (fun _ _ _ _ _ => pts_nil)
      (fun _ _ _ _ _ => pe_cmpR op_lt_str (pv 1) (pv 2) (nomark _))) pa_nil))), ?_⟩
  have hlen : (cp x).length = x.length := by rw [Array.length_toList]; rfl
  refine ⟨_, rfl, _, rfl, _, rfl, _, rfl, Nat.le_trans hx (by decide), _, _, rfl, fun D hD => ?_⟩
  have hy : ∀ i, (cutS x (some 1) none).cps[i]? = x.cps[1 + i]? := fun i => by
    rw [← Array.getElem?_toList, ← Array.getElem?_toList]
    show (cp (cutS x (some 1) none))[i]? = _
    rw [cut1, List.getElem?_drop]
  have hysz : (cutS x (some 1) none).cps.size = x.length - 1 := by
    have z := congrArg List.length (cut1 x)
    rw [List.length_drop, hlen] at z
    exact z
  refine lc_it (walk_texts (n := x.length - 1) (by rw [hysz]; show x.length - 1 = min x.length (x.length - 1); omega)) (fun i H' => H' D = some (.lst (((List.range i).map (stepB (cp x))).map V.bl)) ∧ Same H H') ⟨upd_same, same_new hD _⟩ (fun _ _ _ _ => trivial) ?_ ?_
  · rintro i v H1 H2 hi ⟨hv, sm⟩ ⟨T, c, d, rfl, hT, rfl, hc, hd⟩
    rw [hy] at hd
    refine ⟨T, _, rfl, SqT.of upd_same, rfl, _, _, rfl, _, _, rfl, rfl, rfl, _, rfl, _, rfl, _, _, rfl, rfl, _, (upd_ne (ne_of_none hv hT)).trans hv, ?_, ?_, ?_⟩
    · rw [List.length_map, List.length_map, List.length_range]
      exact Nat.lt_of_lt_of_le (Nat.lt_of_lt_of_le hi (Nat.le_trans (Nat.sub_le _ _) hx)) (by decide)
    · rw [upd_same, List.range_succ, List.map_append, List.map_append]
      have e : stepB (cp x) i = decide (([c] : List Nat) < [d]) := by
        unfold stepB
        rw [lt1, sing_at (by rw [Array.getElem?_toList]; exact hc), sing_at (l := cp x) (i := i + 1) (c := d) (by rw [Array.getElem?_toList, Nat.add_comm]; exact hd)]
      simp only [List.map_cons, List.map_nil, e]
    · intro b o e
      rw [upd_ne (ne_of_none e hD)]
      exact (sm.trans (same_new hT _)) b o e
  · rintro H1 ⟨hv, sm⟩
    refine ⟨_, _, rfl, SqL.of hv, ?_⟩
    have e : ((List.range (x.length - 1)).map (stepB (cp x))).all id = rising (cp x) := by
      unfold rising
      rw [hlen, List.all_map]
      rfl
    rw [e]
    exact q _ sm
theorem scLet : FnScope ["thing", "sign"] ["thing"] (defScope sLet) := ⟨rfl, rfl, rfl, by decide +kernel, rfl, by decide +kernel, by decide +kernel⟩
/-- what a test of "a text?" asks -/
theorem strOr_ty {H : Hp} {v : V} {y : Option Str} (h : StrOr K H v y) : ∃ t, TyX K H v t ∧ PySem.W.kitOne K t (.type "str") = some y.isSome := by
  cases y with
  | none => exact h
  | some x =>
    obtain ⟨rfl, _⟩ := h
    exact ⟨_, .base (.str _), kit_ty (show kitB "str" "str" = some true by decide +kernel)⟩
theorem az_le (c : Nat) : ((!decide (([c] : List Nat) < [97])) && !decide (([122] : List Nat) < [c])) = (decide (97 ≤ c) && decide (c ≤ 122)) := by
  rw [lt1, lt1]
  by_cases h1 : c < 97 <;> by_cases h2 : 122 < c <;> simp [h1, h2] <;> omega
theorem ok_let {f fA : Addr} {fd fdA : FuncData} (F : Fun K "is_letters" "is_letters" sLet f fd) (GA : FnOk P w K mg base CX0 1 fA fdA ["things"] spAsc) (bA : Binds K fdA ["things"] []) (kA : PySem.W.keepIn K (.ref fA) = true) (T : TxtA mg fA) :
    FnOk P w K mg base CX0 2 f fd ["thing"] (spLet K letB) := by
  refine F.ok scLet (fun vs H Q E h => ?_) (fun cdv A outer s H vs Q E hr h => ?_)
  · obtain ⟨v, y, rfl, _⟩ := h
    rfl
  obtain ⟨v, y, rfl, hv, q⟩ := h
  refine ⟨_, pss_cons (ps_if (PW.pt (pw_or (pt_not (pt_val (pe_callB call_isi (by rfl) T.isi (by decide +kernel) (pa_cons (pv 0) (pa_cons (pe_bltn (v := .ty "str") (u := .type "str") (by rfl) T.str (by decide +kernel) rfl) pa_nil)))))
        (pw_or1 (pt_not (pt_chain op_le op_le pe_int (pe_callB call_len_str (by rfl) T.len PySem.boot_len (pa_cons (pv 0) pa_nil)) pe_int)))))
      (pss_one (ps_ret pe_bl)) pss_nil)
    (pss_one (ps_ret (pe_and (pe_callB (cr_all rfl) (by rfl) T.all (by decide +kernel) (pa_cons (pe_lc (own := [("sign", 1)]) (g := gName 1) (tt := tYes) rfl scLet.nd (pi_str (pv 0))
        (blkOk_by (N := ["thing", "sign"]) (sc := defScope sLet) (by decide +kernel)) (fun _ _ _ _ _ => pg_name (i := 1) scLet.nd rfl (Or.inl rfl)) (fun _ _ _ _ _ => pts_nil)
        (fun _ _ _ _ _ => pe_chain op_le_str op_le_str pe_str (pv 1) pe_str)) pa_nil)) (pe_one (pe_call GA hr rfl T.asc kA bA .nil pass0 (pa_cons (pv 0) pa_nil)))))), ?_⟩
  obtain ⟨t, t1, t2⟩ := strOr_ty hv
  refine ⟨_, rfl, _, _, t, _, _, rfl, .ty _, t1, t2, _, rfl, ?_⟩
  cases y with
  | none => exact q H (Same.refl H)
  | some x =>
    obtain ⟨rfl, hx, _⟩ := hv
    have hlen : (cp x).length = x.length := by rw [Array.length_toList]; rfl
    have hq : ∀ b, letB x = b → ∀ H', Same H H' → Q (.bl b) H' := fun b e H' s => e ▸ q H' s
    have none : ¬ (1 ≤ x.length ∧ x.length ≤ 4) → letB x = false := fun h => by
      unfold letB
      by_cases h1 : 1 ≤ x.length
      · rw [decide_eq_false (p := x.length ≤ 4) fun h2 => h ⟨h1, h2⟩, Bool.and_false, Bool.false_and]
      · rw [decide_eq_false h1, Bool.false_and, Bool.false_and]
    refine ⟨_, rfl, _, rfl, Nat.le_trans hx (by decide), _, _, rfl, rfl, _, rfl, ?_⟩
    refine ite2 (fun h1 => ?_) (fun h1 => ⟨_, rfl, hq _ (none fun z => by simp at h1; omega) H (Same.refl H)⟩)
    have h1' : 1 ≤ x.length := by have := of_decide_eq_true h1; omega
    refine ⟨_, _, rfl, rfl, _, rfl, ?_⟩
    refine ite2 (fun h2 => hq _ (none fun z => by simp at h2; omega) H (Same.refl H)) (fun h2 => ?_)
    have h2' : x.length ≤ 4 := by simp at h2; omega
    refine ⟨_, rfl, _, rfl, fun D hD => ?_⟩
    refine lc_it walk_str (fun i H' => H' D = some (.lst ((((cp x).take i).map azB).map V.bl)) ∧ Same H H') ⟨upd_same, same_new hD _⟩ (fun _ _ _ _ => trivial) ?_ ?_
    · rintro i v H1 H2 hi ⟨hv, sm⟩ ⟨rfl, c, hc, rfl⟩
      have hc' : (cp x)[i]? = some c := by rw [Array.getElem?_toList]; exact hc
      have fin : ∀ b, b = azB c → ∃ acc, H2 D = some (.lst acc) ∧ acc.length < sizeLine ∧ (upd H2 D (.lst (acc ++ [V.bl b])) D = some (.lst ((((cp x).take (i + 1)).map azB).map V.bl)) ∧ Same H (upd H2 D (.lst (acc ++ [V.bl b])))) := fun b e => by
        refine ⟨_, hv, ?_, ?_, fun b' o' e' => ?_⟩
        · rw [List.length_map, List.length_map]
          exact Nat.lt_of_le_of_lt (List.length_take_le' _ _) (by rw [hlen]; exact Nat.lt_of_le_of_lt h2' (by decide))
        · rw [upd_same, List.take_add_one, hc', List.map_append, List.map_append, e]
          rfl
        · rw [upd_ne (ne_of_none e' hD)]
          exact sm b' o' e'
      have az := az_le c
      refine ⟨rfl, _, rfl, _, _, rfl, rfl, _, rfl, ?_⟩
      refine ite2 (fun z1 => ⟨_, _, rfl, rfl, fin _ ?_⟩) (fun z1 => fin _ ?_)
      · have z1' : (!decide (([c] : List Nat) < [97])) = true := z1
        rw [z1', Bool.true_and] at az
        exact az
      · have z1' : (!decide (([c] : List Nat) < [97])) = false := by cases z : (!decide (([c] : List Nat) < [97])) with
          | false => rfl
          | true => exact absurd z z1
        rw [z1', Bool.false_and] at az
        exact az
    · rintro H1 ⟨hv, sm⟩
      refine ⟨D, _, rfl, SqL.of hv, _, rfl, ?_⟩
      have et : ((cp x).take x.cps.size) = cp x := List.take_of_length_le (by rw [hlen]; exact Nat.le_refl _)
      have ea : (((cp x).take x.cps.size).map azB).all id = azs (cp x) := by rw [et, List.all_map]; rfl
      have eL : letB x = (azs (cp x) && rising (cp x)) := by
        unfold letB
        rw [decide_eq_true h1', decide_eq_true h2', Bool.true_and, Bool.true_and]
      rw [ea]
      refine ite2 (fun z => ⟨_, rfl, x, rfl, hx, fun H' s' => hq _ ?_ H' (sm.trans s')⟩) (fun z => hq _ ?_ H1 sm)
      · rw [eL, z, Bool.true_and]
      · rw [eL]
        cases e : azs (cp x) with
        | false => rfl
        | true => exact absurd e z
end
end Vf

set_option Elab.async false
set_option linter.all false
set_option maxRecDepth 100000
set_option maxHeartbeats 4000000
namespace Vs
open PySem PySem.Spec PySem.Builtin PySem.Builtin.Str PyProof.Rows L2
/-! ### what is left of a text when all signs of another one are taken off its ends -/
theorem sub_size (x : Str) (lo hi : Nat) (h : hi ≤ x.length) : (strSub x lo hi).length = hi - lo := by
  show (x.cps.extract lo hi).size = hi - lo
  have : x.length = x.cps.size := rfl
  rw [Array.size_extract]
  omega
theorem strip_none (x a : Str) : (Txt.stripChars x a).length = 0 ↔ ∀ c ∈ x.cps.toList, c ∈ a.cps.toList := by
  have hn : x.cps.toList.length = x.length := by simp [Str.length]
  obtain ⟨h0, h1, h2⟩ := lo_facts a.cps.contains x
  obtain ⟨g0, g1, g2, _⟩ := hi_facts a.cps.contains x _ h0
  have e : (Txt.stripChars x a).length = stripHi a.cps.contains true x (stripLo a.cps.contains true x) - stripLo a.cps.contains true x := by
    unfold Txt.stripChars
    rw [stripBy_eq, sub_size _ _ _ g1]
  rw [e]
  have key : ∀ k, k < x.length → (x.cps.getD k 0 ∈ x.cps.toList) := fun k hk => by
    rw [← getD_list]
    have hk' : k < x.cps.toList.length := hn.symm ▸ hk
    rw [List.getD_eq_getElem?_getD, List.getElem?_eq_getElem hk']
    exact List.getElem_mem hk'
  constructor
  · intro z c hc
    obtain ⟨k, hk, rfl⟩ := List.mem_iff_getElem.mp hc
    have hg : a.cps.contains (x.cps.getD k 0) = true := by
      by_cases hlt : k < stripLo a.cps.contains true x
      · exact h1 k hlt
      · exact g2 k (by omega) (hn ▸ hk)
    rw [← getD_list, List.getD_eq_getElem?_getD, List.getElem?_eq_getElem hk] at hg
    simpa using hg
  · intro z
    have all : ∀ k, k < x.length → a.cps.contains (x.cps.getD k 0) = true := fun k hk => by
      have := z _ (key k hk)
      simpa using this
    rcases h2 with h | h
    · omega
    · by_cases hl : stripLo a.cps.contains true x < x.length
      · rw [all _ hl] at h
        cases h
      · omega
theorem strip_dec (x a : Str) : decide (V.str (Txt.stripChars x a) = V.str "") = x.cps.toList.all fun c => decide (c ∈ a.cps.toList) := by
  have h := strip_none x a
  by_cases z : ∀ c ∈ x.cps.toList, c ∈ a.cps.toList
  · have e : (Txt.stripChars x a) = "" := by
      have := h.mpr z
      revert this
      generalize Txt.stripChars x a = y
      intro this
      obtain ⟨l⟩ := y
      have : l = #[] := Array.eq_empty_of_size_eq_zero this
      subst this
      rfl
    rw [e, decide_eq_true rfl, eq_comm, List.all_eq_true]
    exact fun c hc => decide_eq_true (z c hc)
  · have e : ¬ V.str (Txt.stripChars x a) = V.str "" := fun q => z (h.mp (by
      have : Txt.stripChars x a = "" := V.str.inj q
      rw [this]
      rfl))
    rw [decide_eq_false e, eq_comm, List.all_eq_false]
    obtain ⟨c, hc⟩ := Classical.not_forall.mp z
    obtain ⟨hc1, hc2⟩ := Classical.not_imp.mp hc
    exact ⟨c, hc1, by simpa using hc2⟩
end Vs

set_option Elab.async false
set_option linter.all false
set_option maxRecDepth 100000
set_option maxHeartbeats 4000000
namespace Vf
open PySem PySem.Spec PyProof.Rows L2 L2.Vx Vs
section
variable {P : Program} {w : World} {K : PySem.W.Frag} {mg : Str → Option Value} {base : Heap}
theorem scText : FnScope ["letters", "thing"] ["letters", "thing"] (defScope sText) := ⟨rfl, rfl, rfl, by decide +kernel, rfl, by decide +kernel, by decide +kernel⟩
theorem ok_text {f fA : Addr} {fd : FuncData} (F : Fun K "is_text" "is_text" sText f fd) (T : TxtA mg fA) :
    FnOk P w K mg base CX0 1 f fd ["letters", "thing"] (spText K wordB) := by
  refine F.ok scText (fun vs H Q E h => ?_) (fun cdv A outer s H vs Q E hr h => ?_)
  · obtain ⟨a, v, y, rfl, _⟩ := h
    rfl
  obtain ⟨a, v, y, rfl, hv, ha, q⟩ := h
  refine ⟨_, pss_one (ps_ret (pe_and (pe_callB call_isi (by rfl) T.isi (by decide +kernel) (pa_cons (pv 1) (pa_cons (pe_bltn (v := .ty "str") (u := .type "str") (by rfl) T.str (by decide +kernel) rfl) pa_nil)))
      (pe_one (pe_cmpR op_eq (pe_bm PySem.F.plainAttrs_str PySem.F.slot_str_strip PySem.F.type_str_strip mt_stripChars (pv 1) (pa_cons (pv 0) pa_nil)) pe_str (nomark _))))), ?_⟩
  obtain ⟨t, t1, t2⟩ := strOr_ty hv
  refine ⟨_, rfl, _, _, t, _, _, rfl, .ty _, t1, t2, _, rfl, ?_⟩
  cases y with
  | none => exact q H (Same.refl H)
  | some x =>
    obtain ⟨rfl, hx, h128⟩ := hv
    refine ⟨_, rfl, rfl, _, rfl, _, _, rfl, rfl, Nat.le_trans hx (by decide), rfl, ?_⟩
    have e : decide (V.str (Txt.stripChars x a) = V.str "") = wordB a x := by
      rw [strip_dec]
      rfl
    show Q (.bl (decide (V.str (Txt.stripChars x a) = V.str ""))) H
    rw [e]
    exact q _ (Same.refl H)
end
end Vf

set_option linter.all false
namespace Vm
/-! ### words as lists of codes; the pieces of a word -/
abbrev Wd := List Nat
theorem lt_irr (x : Wd) : ¬ x < x := List.lt_irrefl x
theorem lt_tr {x y z : Wd} (a : x < y) (b : y < z) : x < z := List.lt_trans a b
theorem lt_as {x y : Wd} (a : x < y) : ¬ y < x := fun b => lt_irr x (lt_tr a b)
theorem lt_tri {x y : Wd} (a : ¬ x < y) (b : ¬ y < x) : x = y := List.le_antisymm (List.not_lt.mp b) (List.not_lt.mp a)
theorem le_tr {x y z : Wd} (a : ¬ y < x) (b : ¬ z < y) : ¬ z < x := List.not_lt.mpr (List.le_trans (List.not_lt.mp a) (List.not_lt.mp b))
/-- p into an ascending list -/
def ins (p : Wd) : List Wd → List Wd
  | [] => [p]
  | q :: r => if p < q then p :: q :: r else if q < p then q :: ins p r else q :: r
def asc : List Wd → List Wd
  | [] => []
  | p :: r => ins p (asc r)
abbrev Up (l : List Wd) : Prop := l.Pairwise (· < ·)
theorem mem_ins {p x : Wd} : ∀ {l : List Wd}, x ∈ ins p l ↔ x = p ∨ x ∈ l
  | [] => by simp [ins]
  | q :: r => by
    unfold ins
    by_cases h1 : p < q
    · simp [h1]
    · by_cases h2 : q < p
      · simp only [h1, h2, if_false, if_true, List.mem_cons, mem_ins (l := r)]
        constructor
        · rintro (a | a | a) <;> simp [a]
        · rintro (a | a | a) <;> simp [a]
      · have e := lt_tri h1 h2
        subst e
        simp [h1]
theorem up_ins {p : Wd} : ∀ {l : List Wd}, Up l → Up (ins p l)
  | [], _ => List.pairwise_singleton _ _
  | q :: r, h => by
    obtain ⟨a, b⟩ := List.pairwise_cons.mp h
    unfold ins
    by_cases h1 : p < q
    · rw [if_pos h1]
      exact List.pairwise_cons.mpr ⟨fun y hy => (List.mem_cons.mp hy).elim (fun e => e ▸ h1) fun hy => lt_tr h1 (a y hy), h⟩
    · rw [if_neg h1]
      by_cases h2 : q < p
      · rw [if_pos h2]
        exact List.pairwise_cons.mpr ⟨fun y hy => (mem_ins.mp hy).elim (fun e => e ▸ h2) fun hy => a y hy, up_ins b⟩
      · rw [if_neg h2]; exact h
theorem mem_asc {x : Wd} : ∀ {l : List Wd}, x ∈ asc l ↔ x ∈ l
  | [] => Iff.rfl
  | p :: r => by unfold asc; rw [mem_ins, mem_asc (l := r), List.mem_cons]
theorem up_asc : ∀ l : List Wd, Up (asc l)
  | [] => List.Pairwise.nil
  | p :: r => up_ins (up_asc r)
theorem up_uniq : ∀ {l m : List Wd}, Up l → Up m → (∀ x, x ∈ l ↔ x ∈ m) → l = m
  | [], [], _, _, _ => rfl
  | [], y :: m, _, _, h => absurd ((h y).mpr (List.mem_cons_self ..)) (by simp)
  | x :: l, [], _, _, h => absurd ((h x).mp (List.mem_cons_self ..)) (by simp)
  | x :: l, y :: m, hl, hm, h => by
    obtain ⟨a1, a2⟩ := List.pairwise_cons.mp hl
    obtain ⟨b1, b2⟩ := List.pairwise_cons.mp hm
    have e : x = y := by
      rcases List.mem_cons.mp ((h x).mp (List.mem_cons_self ..)) with e | hx
      · exact e
      · rcases List.mem_cons.mp ((h y).mpr (List.mem_cons_self ..)) with e | hy
        · exact e.symm
        · exact absurd (a1 y hy) (lt_as (b1 x hx))
    subst e
    refine congrArg (x :: ·) (up_uniq a2 b2 fun z => ?_)
    have hz := h z
    simp only [List.mem_cons] at hz
    constructor
    · intro q
      rcases hz.mp (.inr q) with e | w
      · exact absurd (a1 z q) (e ▸ lt_irr _)
      · exact w
    · intro q
      rcases hz.mpr (.inr q) with e | w
      · exact absurd (b1 z q) (e ▸ lt_irr _)
      · exact w
theorem up_nodup {l : List Wd} (h : Up l) : l.Nodup := List.Pairwise.imp (fun {a b} (q : a < b) (e : a = b) => lt_irr b (by rw [e] at q; exact q)) h
/-- a sorted list without doubles ascends -/
theorem up_of_le : ∀ {l : List Wd}, l.Pairwise (fun x y => ¬ y < x) → l.Nodup → Up l
  | [], _, _ => List.Pairwise.nil
  | x :: l, h, d => by
    obtain ⟨a1, a2⟩ := List.pairwise_cons.mp h
    obtain ⟨b1, b2⟩ := List.nodup_cons.mp d
    refine List.pairwise_cons.mpr ⟨fun y hy => ?_, up_of_le a2 b2⟩
    by_cases c : x < y
    · exact c
    · exact absurd (lt_tri c (a1 y hy) ▸ hy) b1
theorem asc_length_le : ∀ l : List Wd, (asc l).length ≤ l.length
  | [] => Nat.le_refl _
  | p :: r => by
    have h : ∀ m : List Wd, (ins p m).length ≤ m.length + 1 := by
      intro m
      induction m with
      | nil => exact Nat.le_refl _
      | cons q m ih =>
        unfold ins
        by_cases h1 : p < q
        · simp [h1]
        · by_cases h2 : q < p
          · simp [h1, h2]; exact ih
          · simp [h1, h2]
    exact Nat.le_trans (h _) (Nat.succ_le_succ (asc_length_le r))
theorem asc_congr {l m : List Wd} (h : ∀ x, x ∈ l ↔ x ∈ m) : asc l = asc m := up_uniq (up_asc _) (up_asc _) fun x => by rw [mem_asc, mem_asc, h x]
/-- the pieces of k signs, from the left -/
def win (k : Nat) (z : Wd) (i : Nat) : Wd := (z.drop i).take k
def wins (k : Nat) (z : Wd) : List Wd := (List.range (z.length + 1 - k)).map (win k z)
theorem wins_length (k : Nat) (z : Wd) : (wins k z).length = z.length + 1 - k := by simp [wins]
theorem wins_get {k : Nat} {z : Wd} {i : Nat} (h : i < z.length + 1 - k) : (wins k z)[i]? = some (win k z i) := by simp [wins, h]
theorem win_length {k : Nat} {z : Wd} {i : Nat} (h : i < z.length + 1 - k) : (win k z i).length = k := by
  simp [win]; omega
theorem wins_len {k : Nat} {z p : Wd} (h : p ∈ wins k z) : p.length = k := by
  obtain ⟨i, hi, rfl⟩ := List.mem_map.mp h
  exact win_length (List.mem_range.mp hi)
theorem wins_mem {k : Nat} {z p : Wd} (h : p ∈ wins k z) : ∀ c ∈ p, c ∈ z := by
  obtain ⟨i, hi, rfl⟩ := List.mem_map.mp h
  intro c hc
  exact List.mem_of_mem_drop (List.mem_of_mem_take hc)
/-- how often a piece stands in a word -/
def often (k : Nat) (z p : Wd) : Nat := (wins k z).count p
theorem often_pos {k : Nat} {z p : Wd} : 0 < often k z p ↔ p ∈ wins k z := List.count_pos_iff
theorem often_le (k : Nat) (z p : Wd) : often k z p ≤ z.length + 1 - k := by
  rw [← wins_length]; exact List.count_le_length
/-- the wins so far -/
theorem take_succ_wins {k : Nat} {z : Wd} {i : Nat} (h : i < z.length + 1 - k) : (wins k z).take (i + 1) = (wins k z).take i ++ [win k z i] := by
  rw [List.take_add_one, wins_get h]; rfl
/-! ### counting from place to place -/
def upto (k : Nat) (z p : Wd) (j : Nat) : Nat := ((wins k z).take j).count p
theorem upto_all {k : Nat} {z p : Wd} {j : Nat} (h : z.length + 1 - k ≤ j) : upto k z p j = often k z p := by
  unfold upto often
  rw [List.take_of_length_le (by rw [wins_length]; exact h)]
theorem upto_none {k : Nat} {z p : Wd} {a b : Nat} (h : a ≤ b) (hn : ∀ i, a ≤ i → i < b → i < z.length + 1 - k → win k z i ≠ p) : upto k z p b = upto k z p a := by
  induction b with
  | zero => cases Nat.le_zero.mp h; rfl
  | succ b ih =>
    by_cases e : a = b + 1
    · rw [e]
    · have r := ih (by omega) fun i h1 h2 h3 => hn i h1 (by omega) h3
      rw [← r]
      unfold upto
      by_cases hb : b < z.length + 1 - k
      · rw [take_succ_wins hb, List.count_append, List.count_singleton, if_neg]
        · rfl
        · simpa using hn b (by omega) (by omega) hb
      · rw [List.take_of_length_le (by rw [wins_length]; omega), List.take_of_length_le (by rw [wins_length]; omega)]
theorem upto_hit {k : Nat} {z p : Wd} {b : Nat} (hb : b < z.length + 1 - k) (h : win k z b = p) : upto k z p (b + 1) = upto k z p b + 1 := by
  unfold upto
  rw [take_succ_wins hb, List.count_append, List.count_singleton, if_pos (by simpa using h)]
theorem upto_zero {k : Nat} {z p : Wd} {i : Nat} (h : p ∉ (wins k z).take i) : upto k z p i = 0 := List.count_eq_zero.mpr h
theorem upto_miss {k : Nat} {z p : Wd} {b : Nat} (hb : b < z.length + 1 - k) (h : p ≠ win k z b) : upto k z p (b + 1) = upto k z p b := by
  unfold upto
  rw [take_succ_wins hb, List.count_append, List.count_singleton, if_neg (by simpa using fun e => h e.symm)]
  rfl
theorem mem_take_succ {k : Nat} {z p : Wd} {i : Nat} (hi : i < z.length + 1 - k) : p ∈ (wins k z).take (i + 1) ↔ p ∈ (wins k z).take i ∨ p = win k z i := by
  rw [take_succ_wins hi, List.mem_append, List.mem_singleton]
end Vm

set_option Elab.async false
set_option linter.all false
set_option maxRecDepth 100000
set_option maxHeartbeats 4000000
/-! ### texts, any number of them, sorted -/
namespace SrtO
open PySem PyProof.Rows Srt
section
variable {prog : Program} {w : World} {A : Around} {E : Value → Shared → Prop} {s : Shared}
def ltSv (v u : Value) : Bool := decide ((strOf v).cps.toList < (strOf u).cps.toList)
theorem swo_text : Swo ltSv := by
  refine ⟨fun x y h => ?_, fun x y z h1 h2 => ?_⟩
  · have a := of_decide_eq_true (p := (strOf x).cps.toList < (strOf y).cps.toList) h
    exact decide_eq_false (p := (strOf y).cps.toList < (strOf x).cps.toList) (Vm.lt_as a)
  · have a := of_decide_eq_false (p := (strOf y).cps.toList < (strOf x).cps.toList) h1
    have b := of_decide_eq_false (p := (strOf z).cps.toList < (strOf y).cps.toList) h2
    exact decide_eq_false (p := (strOf z).cps.toList < (strOf x).cps.toList) (Vm.le_tr a b)
theorem strs_mem : ∀ {vs : List Value} {ns : List PySem.Str}, StrsAre vs ns → ∀ v ∈ vs, ∃ i t, v = Value.str i t
  | _, _, .nil, v, h => absurd h (by simp)
  | _, _, .cons n t r, v, h => by
    rcases List.mem_cons.mp h with e | h
    · exact ⟨n, t, e⟩
    · exact strs_mem r v h
theorem strs_sv : ∀ {vs : List Value} {ns : List PySem.Str}, StrsAre vs ns → vs.map strOf = ns
  | _, _, .nil => rfl
  | _, _, .cons n t r => congrArg (n :: ·) (strs_sv r)
theorem text_cmp {vs : List Value} {ns : List PySem.Str} (hI : StrsAre vs ns) : Cmp prog w A s oneType' (fun p => p.1 ∈ vs) (lt2 ltSv) := by
  intro p q hm hm'
  obtain ⟨a, t, e⟩ := strs_mem hI _ hm
  obtain ⟨b, u, e'⟩ := strs_mem hI _ hm'
  show wpAny (model prog w) A (keyLt' oneType' p.1 q.1) (fun r s' => s' = s ∧ r = ltSv p.1 q.1) (fun _ _ => False) s
  rw [e, e', keyLt'_oneType]
  exact oneLt_str ⟨rfl, rfl⟩
theorem texts_sortable {a : Addr} {vs : List Value} {ns : List PySem.Str} (hI : StrsAre vs ns) (h2 : 2 ≤ vs.length) : SortableO prog w A s a vs ltSv := by
  intro h' _
  refine ⟨oneType', fun Q E hq => ?_, text_cmp hI⟩
  match vs, hI, h2 with
  | v1 :: v2 :: rest, hI, _ =>
    rw [keyKind_strs hI]
    exact wpAny_pure hq
  | [], _, h => exact absurd h (by decide)
  | [v], _, h => exact absurd h (by simp)
/-- a sorted list of texts -/
abbrev UpS (l : List PySem.Str) : Prop := l.Pairwise fun x y => ¬ y.cps.toList < x.cps.toList
theorem texts_out {vs out : List Value} {ns : List PySem.Str} (hI : StrsAre vs ns) (hs : Srtd ltSv out) (hb : Stb ltSv out vs) : StrsAre out (out.map strOf) ∧ (out.map strOf).Perm ns ∧ UpS (out.map strOf) := by
  refine ⟨Vs.strs_of out fun v hv => strs_mem hI v (hb.perm.mem_iff.mp hv), ?_, ?_⟩
  · have q := hb.perm.map strOf
    rw [strs_sv hI] at q
    exact q
  · exact List.pairwise_map.mpr (hs.imp fun {x y} h => of_decide_eq_false (p := (strOf y).cps.toList < (strOf x).cps.toList) h)
end
end SrtO
namespace Vs
open PySem PySem.Spec PyProof.Rows L2 SrtO
open PySem.Froz (SD sObj addTx tailTx sing TxOk)
section
variable {P : Program} {w : World} {A : Around} {E : Value → Shared → Prop} {s : Shared}
/-- the collected texts, as a new list that is sorted -/
theorem sort_collected {α : Type} {vs : List Value} {ks : List PySem.Str} {s1 : Shared} {t : Value → Sem α} {Q : α → Shared → Prop} (hS : StrsAre vs ks) (hz : vs.length ≤ sizeLine)
    (h : ∀ (h' : Heap) p (out : List Value) (c : Nat) (ys : List PySem.Str), (∀ b o, s1.heap.get? b = some o → h'.get? b = some o) → s1.heap.objs.size ≤ p →
      h'.get? p = some (seqObj "list" out.toArray c) → StrsAre out ys → ys.Perm ks → UpS ys → wpAny (model P w) A (t (.ref p)) Q E { s1 with heap := h' }) :
    wpAny (model P w) A (do
      let r ← newList vs
      let _ ← holding [r] (call (.builtin "list.sort") [r] [])
      t r) Q E s1 := by
  refine wpAny_bind (wpAny_newList ?_ hz)
  have hL : (s1.heap.push (seqObj "list" vs.toArray 0)).get? s1.heap.objs.size = some (seqObj "list" vs.toArray 0) := Heap.get?_push_size _ rfl
  refine wpAny_bind (wpAny_holding (wpAny_call_entry slot_list_sort ⟨_, hL, rfl⟩ entry_list_sort
    (list_sort_ord swo_text hL hz (fun h2 => texts_sortable hS h2) fun out h1 h2 => ⟨_, rfl, ?_⟩) (args_list_sort _)))
  obtain ⟨y1, y2, y3⟩ := texts_out hS h1 h2
  obtain ⟨c, hc⟩ := sortedHeap_at (vs := vs) (out := out.toArray) hL
  refine h _ s1.heap.objs.size out c _ (fun b u q => ?_) (Nat.le_refl _) hc y1 y2 y3
  have hb := Heap.lt_size q
  rw [sortedHeap_old (Nat.ne_of_lt hb) (by rw [size_push']; exact Nat.lt_succ_of_lt hb)]
  exact Heap.get?_push_of_some _ q
end
end Vs

set_option Elab.async false
set_option linter.all false
set_option maxRecDepth 100000
set_option maxHeartbeats 4000000
namespace Vs
open PySem PySem.Spec PyProof.Rows L2 SrtO
open PySem.Froz (SD sObj addTx tailTx sing TxOk)
/-! ### set(d), d a dict whose keys are texts -/
theorem above_go (n : Nat) (hn : n ≤ 8192) : ∀ fuel size, size ≤ 16384 → SetTable.sizeAbove.go n fuel size ≤ 16384
  | 0, size, h => by unfold SetTable.sizeAbove.go; exact h
  | fuel + 1, size, h => by
    unfold SetTable.sizeAbove.go
    split
    · exact above_go n hn fuel (size * 2) (by omega)
    · exact h
theorem above_le {n : Nat} (hn : n ≤ 8192) : SetTable.sizeAbove n ≤ 16384 := above_go n hn 64 8 (by decide)
theorem live_none (m : Nat) : (List.range (m + 1)).filterMap (fun j => ((Array.replicate (m + 1) (none : Option Nat)).getD j none).map (j, ·)) = [] := by
  refine List.filterMap_eq_nil_iff.mpr fun j _ => ?_
  have e : (Array.replicate (m + 1) (none : Option Nat)).getD j none = none := by
    rw [Array.getD_eq_getD_getElem?, Array.getElem?_replicate]
    split <;> rfl
  rw [e]
  rfl
theorem relaid_none (t : SetTable) (n : Nat) : ∃ t', t.relaid #[] n = some (t', #[]) ∧ t'.place = #[] ∧ t'.dummies = #[] ∧ t'.led = t.led := by
  refine ⟨{ mask := SetTable.sizeAbove n - 1, place := #[], dummies := #[], finger := t.finger, led := t.led, moves := t.movedTo (SetTable.sizeAbove n - 1), plain := t.plain }, ?_, rfl, rfl, rfl⟩
  have e : SetTable.layClean (SetTable.sizeAbove n - 1) #[] = some (Array.replicate (SetTable.sizeAbove n - 1 + 1) none) := rfl
  have l := live_none (SetTable.sizeAbove n - 1)
  unfold SetTable.relaid SetTable.laid
  rw [e]
  show some (({ mask := SetTable.sizeAbove n - 1, place := (((List.range (SetTable.sizeAbove n - 1 + 1)).filterMap (fun j => ((Array.replicate (SetTable.sizeAbove n - 1 + 1) (none : Option Nat)).getD j none).map (j, ·))).map Prod.fst).toArray, dummies := #[], finger := t.finger, led := t.led, moves := t.movedTo (SetTable.sizeAbove n - 1), plain := t.plain } : SetTable), (((List.range (SetTable.sizeAbove n - 1 + 1)).filterMap (fun j => ((Array.replicate (SetTable.sizeAbove n - 1 + 1) (none : Option Nat)).getD j none).map (j, ·))).map Prod.snd).toArray) = _
  rw [l]
  rfl
section
variable {P : Program} {w : World} {A : Around} {E : Value → Shared → Prop} {s : Shared}
theorem room_fresh {S : Addr} {n : Nat} {Q : Unit → Shared → Prop} (hS : s.heap.get? S = some (sObj "set" (emptyD w))) (hn : n ≤ 4000)
    (h : ∀ h' D, Heap.SameBut S s.heap h' → h'.get? S = some (sObj "set" D) → Tx P w D [] → Q () { s with heap := h' }) : wpAny (model P w) A (setRoomFor S n) Q E s := by
  have hd : (sObj "set" (emptyD w)).data = .set #[] 0 (.fresh 0 0 (!w.params.followText "set-order")) := rfl
  have keep : Q () s := h s.heap (emptyD w) (Heap.SameBut.refl _ _) hS tx_empty
  unfold setRoomFor
  refine wpAny_bind (wpAny_setState_of hS hd (by rfl) ?_)
  dsimp only
  unfold SetTable.roomFor
  by_cases c : ((SetTable.fresh 0 0 (!w.params.followText "set-order")).fill + n) * 5 ≥ (SetTable.fresh 0 0 (!w.params.followText "set-order")).mask * 3
  · rw [if_pos c]
    dsimp only
    generalize hw : ((SetTable.fresh 0 0 (!w.params.followText "set-order")).place.size + n) * 2 = wanted
    have hw2 : wanted ≤ 8192 := by
      have z : (SetTable.fresh 0 0 (!w.params.followText "set-order")).place.size = 0 := rfl
      rw [z] at hw
      omega
    obtain ⟨t', e, e1, e2, e3⟩ := relaid_none (SetTable.fresh 0 0 (!w.params.followText "set-order")) wanted
    rw [setRelay_eq]
    refine wpAny_bind (wpAny_setState_of hS hd (by rfl) ?_)
    dsimp only
    refine wp_if_neg (by have z := above_le hw2; rw [sizeLine_eq]; omega) ?_
    try refine wpAny_bind (wpAny_pure ?_)
    rw [show (#[] : Array (Int × Value)).map (·.1) = (#[] : Array Int) from by simp, e]
    dsimp only
    refine wpAny_bind ?_
    refine wp_if_neg (by simp) ?_
    try refine wpAny_bind (wpAny_pure ?_)
    refine wpAny_pure ?_
    dsimp only
    refine wpAny_storeSet_of hS hd ?_ (by simp)
    have sb : Heap.SameBut S s.heap (s.heap.update S (Obj.putSet ((#[] : Array Nat).filterMap ((#[] : Array (Int × Value))[·]?)) t')) := Heap.SameBut.update ..
    refine h _ (#[], 1, t') sb (store_at hS hd) ⟨TxOk.nil ?_, ?_, ?_, List.nodup_nil⟩
    · simp [SetTable.fits, SetTable.fill, e1, e2]
    · rw [e1]; exact List.Pairwise.nil
    · rw [e3]
      show _ ∨ (!w.params.followText "set-order") = true
      cases w.params.followText "set-order" <;> simp
  · rw [if_neg c]
    exact wpAny_pure keep
theorem sub_dict_set : isSubtype (.type "dict") (.type "set") = pure false := by rw [isSubtype_type]; kernel_rfl
theorem sub_dict_frozenset : isSubtype (.type "dict") (.type "frozenset") = pure false := by rw [isSubtype_type]; kernel_rfl
/-- the keys are put in, one by one -/
theorem call_set_dict {d : Addr} {vs : List (Key × Value)} {ks : List Str} {Q : Value → Shared → Prop} (hd : s.heap.DictOf (mixKind P w) d vs) (hds : (d == sysModules) = false) (hk : vs.map (·.1) = ks.map Sum.inr) (hl : ks.length ≤ 4000)
    (h : ∀ (s' : Shared) D l, (∀ b o, s.heap.get? b = some o → s'.heap.get? b = some o) → s'.gens = s.gens → s'.os = s.os → s'.heap.get? s.heap.objs.size = some (sObj "set" D) → Tx P w D l → (∀ k, k ∈ l ↔ k ∈ ks) → l.length = ks.length → Q (.ref s.heap.objs.size) s') :
    wpAny (model P w) A (call (.type "set") [.ref d]) Q E s := by
  refine set_by_init fun R hR => ?_
  obtain ⟨o, es, ep, ho, hc, hdat, hkeys, hpairs, hnd⟩ := id hd
  have hne : d ≠ s.heap.objs.size := Nat.ne_of_lt (Heap.lt_size ho)
  have hS : (s.heap.push (sObj "set" (emptyD w))).get? s.heap.objs.size = some (sObj "set" (emptyD w)) := Heap.get?_push_size _ rfl
  have ho1 : (s.heap.push (sObj "set" (emptyD w))).get? d = some o := Heap.get?_push_of_some _ ho
  have hold : ∀ b o, s.heap.get? b = some o → b ≠ s.heap.objs.size ∧ (s.heap.push (sObj "set" (emptyD w))).get? b = some o := fun b o e => ⟨Nat.ne_of_lt (Heap.lt_size e), Heap.get?_push_of_some _ e⟩
  have hty : Shared.TypeIs { s with heap := s.heap.push (sObj "set" (emptyD w)) } (.ref d) "dict" := ⟨o, ho1, hc.1⟩
  generalize s.heap.push (sObj "set" (emptyD w)) = h1 at hS ho1 hold hty ⊢
  have t1 := sub_dict_set
  have t2 := sub_dict_frozenset
  unfold Builtin.«set.__init__» noKeywords Builtin.Frozenset.updateFrom
  wp_walk
  rw [hdat]
  refine wpAny_pure ?_
  refine wpAny_bind (wpAny_dictEntries ho1 hdat ?_)
  have hlen : es.size = ks.length := by
    have e1 := hpairs.length
    have e2 := congrArg List.length hk
    rw [List.length_map, List.length_map] at e2
    rw [Array.length_toList] at e1
    omega
  have hksn : ks.Nodup := by
    have z := hnd
    rw [hk] at z
    exact (List.pairwise_map.mp z).imp fun {a b} q e => q (by rw [e])
  refine wpAny_bind (room_fresh hS (by rw [hlen]; exact hl) fun h2 D sb hS2 F => ?_)
  have ho2 : h2.get? d = some o := (sb.2 d hne).trans ho1
  refine wpAny_bind (wpAny_dictEntries ho2 hdat ?_)
  refine wpAny_bind ?_
  refine SeqAt.wpAny_forIn_span 0 es.size _ (fun i _ s' => ∃ h' D l, s' = { s with heap := h' } ∧ h'.get? s.heap.objs.size = some (sObj "set" D) ∧ Tx P w D l ∧ l.length = i ∧ (∀ k, k ∈ l ↔ k ∈ ks.take i) ∧ (∀ b o', b ≠ s.heap.objs.size → h1.get? b = some o' → h'.get? b = some o'))
    _ ?_ ?_ _ ⟨h2, D, [], rfl, hS2, F, rfl, (fun k => by simp), fun b o' n e => (sb.2 b n).trans e⟩
  · rintro i _ s' _ hi ⟨h', D1, l, rfl, g1, g2, g3, g4, g5⟩
    have ho3 := g5 d o hne ho1
    refine wpAny_bind (wpAny_dictEntries ho3 hdat ?_)
    rw [Array.getElem?_eq_getElem hi]
    have hik : i < ks.length := by omega
    obtain ⟨kv, hkv⟩ : ∃ kv, vs[i]? = some kv := by
      have e2 := congrArg List.length hk
      rw [List.length_map, List.length_map] at e2
      exact ⟨vs[i]'(by omega), List.getElem?_eq_getElem _⟩
    obtain ⟨kk, vv⟩ := kv
    obtain ⟨hkey, hval⟩ := hpairs.get? (e := es[i]) (by simp [hi]) hkv
    obtain ⟨k', hkey', hhash⟩ := hkeys es[i] (Array.getElem_mem hi)
    obtain rfl : k' = kk := (mixKind P w).inj _ _ _ hkey' hkey
    have ekk : k' = Sum.inr ks[i] := by
      have z := congrArg (fun l => l[i]?) hk
      simp only [List.getElem?_map, hkv, Option.map_some, List.getElem?_eq_getElem hik] at z
      exact Option.some.inj z
    subst ekk
    obtain ⟨tk, ev⟩ := Value.isStrOf_shape (x := ks[i]) (v := es[i].key) hkey
    show wpAny _ _ (holding [es[i].key] (setAddHashed s.heap.objs.size es[i].key es[i].hash) >>= _) _ _ _
    rw [hhash, ev]
    have hni : ks[i] ∉ l := fun z => by
      obtain ⟨j, hj, e⟩ := List.getElem_of_mem ((g4 _).mp z)
      rw [List.length_take] at hj
      rw [List.getElem_take] at e
      exact List.pairwise_iff_getElem.mp hksn j i (by omega) hik (by omega) e
    refine wpAny_bind (wpAny_holding (Froz.add_x (s := { s with heap := h' }) g1 g2.ok hni (by rw [g3]; exact Nat.lt_of_le_of_lt (show i + 1 ≤ 4000 by omega) (by decide)) ?_))
    have hS3 : (h'.update s.heap.objs.size (fun _ => sObj "set" (addTx (hashStr w ks[i]) (.str ks[i] tk) D1))).get? s.heap.objs.size = some (sObj "set" (addTx (hashStr w ks[i]) (.str ks[i] tk) D1)) := Froz.get_upd _ g1 rfl
    have other : ∀ b o', b ≠ s.heap.objs.size → h'.get? b = some o' → (h'.update s.heap.objs.size (fun _ => sObj "set" (addTx (hashStr w ks[i]) (.str ks[i] tk) D1))).get? b = some o' := fun b o' n e => (Heap.get?_update_other _ _ (Ne.symm n)).trans e
    refine wpAny_bind (wpAny_dictEpoch (other d o hne ho3) hdat ?_)
    rw [if_neg (by simp)]
    refine wpAny_pure ⟨_, _, ks[i] :: l, rfl, hS3, g2.add tk hni, (by rw [List.length_cons, g3]), fun k => ?_, fun b o' n e => other b o' n (g5 b o' n e)⟩
    rw [List.take_add_one, List.getElem?_eq_getElem hik, List.mem_append, List.mem_cons, g4 k]
    simp [Or.comm]
  · rintro _ s' ⟨h', D1, l, rfl, g1, g2, g3, g4, g5⟩
    have em : max 0 es.size = ks.length := by rw [hlen]; exact Nat.max_eq_right (Nat.zero_le _)
    rw [em] at g3 g4
    rw [List.take_length] at g4
    exact wpAny_pure (wpAny_pure (hR _ (h { s with heap := h' } D1 l (fun b o' e => g5 b o' (hold b o' e).1 (hold b o' e).2) rfl rfl g1 g2 g4 g3)))
end
end Vs

set_option Elab.async false
set_option linter.all false
set_option maxRecDepth 100000
set_option maxHeartbeats 4000000
namespace Vm
open PySem PySem.Spec PyProof.Rows L2 L2.Vx
/-! ### words as texts; dicts whose keys are words -/
def mkS (l : Wd) : Str := ⟨l.toArray⟩
theorem mkS_cps (l : Wd) : (mkS l).cps.toList = l := by simp [mkS]
theorem mkS_of (z : Str) : mkS z.cps.toList = z := by obtain ⟨⟨l⟩⟩ := z; rfl
theorem mkS_inj {a b : Wd} (h : mkS a = mkS b) : a = b := by rw [← mkS_cps a, h, mkS_cps]
theorem mkS_length (l : Wd) : (mkS l).length = l.length := by
  show l.toArray.size = _
  simp
abbrev kS (p : Wd) : Key := Sum.inr (mkS p)
theorem kS_iff {a b : Wd} : kS a = kS b ↔ a = b := ⟨fun h => mkS_inj (Sum.inr.inj h), fun h => by rw [h]⟩
def entK (f : Wd → V) (ks : List Wd) : List (Key × V) := ks.map fun k => (kS k, f k)
theorem entK_length (f : Wd → V) (ks : List Wd) : (entK f ks).length = ks.length := List.length_map _
theorem entK_keys (f : Wd → V) (ks : List Wd) : (entK f ks).map (·.1) = (ks.map mkS).map Sum.inr := by
  unfold entK
  rw [List.map_map, List.map_map]
  rfl
theorem entK_congr {f g : Wd → V} {ks : List Wd} (h : ∀ p ∈ ks, f p = g p) : entK f ks = entK g ks := List.map_congr_left fun p hp => by rw [h p hp]
theorem valV_ent (f : Wd → V) (p : Wd) : ∀ ks : List Wd, valV (entK f ks) (kS p) = if p ∈ ks then some (f p) else none
  | [] => by simp [entK, valV_nil]
  | q :: r => by
    show valV ((kS q, f q) :: entK f r) (kS p) = _
    by_cases e : q = p
    · subst e
      rw [valV_pos (p := (kS q, f q)) rfl, if_pos (List.mem_cons_self ..)]
    · rw [valV_neg (p := (kS q, f q)) (fun z => e (kS_iff.mp z)), valV_ent f p r]
      have e' : ¬ p = q := fun z => e z.symm
      simp only [List.mem_cons, e', false_or]
theorem get_ent {H : Hp} {d : Addr} {f : Wd → V} {ks : List Wd} {p : Wd} (e : H d = some (.dK (entK f ks))) (h : p ∈ ks) : DGet H d (.str (mkS p)) (some (f p)) := by
  have z := DGet.k (k := kS p) e
  rw [valV_ent, if_pos h] at z
  exact z
theorem getD_ent {f : Wd → V} {ks : List Wd} {p : Wd} {v : V} (h : p ∉ ks → f p = v) : (valV (entK f ks) (kS p)).getD v = f p := by
  rw [valV_ent]
  split
  · rfl
  · rename_i c
    exact (h c).symm
/-- f, but v at p -/
def at' (f : Wd → V) (p : Wd) (v : V) : Wd → V := fun q => if q = p then v else f q
/-- p behind the others, if it is new -/
def more (ks : List Wd) (p : Wd) : List Wd := if p ∈ ks then ks else ks ++ [p]
theorem putK_ent (f : Wd → V) (p : Wd) (v : V) (ks : List Wd) : putK (entK f ks) (kS p) v = entK (at' f p v) (more ks p) := by
  have e := valV_ent f p ks
  unfold more
  by_cases h : p ∈ ks
  · rw [if_pos h]
    rw [if_pos h] at e
    unfold putK
    rw [valV_any, e, if_pos (show (some (f p)).isSome = true from rfl)]
    unfold entK
    rw [List.map_map]
    refine List.map_congr_left fun q _ => ?_
    show (if kS q = kS p then (kS q, v) else (kS q, f q)) = (kS q, if q = p then v else f q)
    by_cases c : q = p
    · rw [if_pos (kS_iff.mpr c), if_pos c]
    · rw [if_neg (fun z => c (kS_iff.mp z)), if_neg c]
  · rw [if_neg h]
    rw [if_neg h] at e
    rw [putK_new _ e]
    unfold entK
    rw [List.map_append]
    refine congr (congrArg _ (List.map_congr_left fun q hq => ?_)) ?_
    · have c : ¬ q = p := fun z => h (z ▸ hq)
      show (kS q, f q) = (kS q, if q = p then v else f q)
      rw [if_neg c]
    · show [(kS p, v)] = [(kS p, if p = p then v else f p)]
      rw [if_pos rfl]
theorem more_nodup {ks : List Wd} (h : ks.Nodup) (p : Wd) : (more ks p).Nodup := by
  unfold more
  split
  · exact h
  · rename_i c
    refine List.nodup_append.mpr ⟨h, List.nodup_cons.mpr ⟨by simp, List.nodup_nil⟩, fun a ha b hb e => ?_⟩
    rw [List.mem_singleton.mp hb] at e
    exact c (e ▸ ha)
theorem mem_more {ks : List Wd} {p q : Wd} : q ∈ more ks p ↔ q ∈ ks ∨ q = p := by
  unfold more
  split
  · rename_i c
    exact ⟨.inl, fun h => h.elim id fun e => e ▸ c⟩
  · simp
theorem more_length (ks : List Wd) (p : Wd) : (more ks p).length ≤ ks.length + 1 := by
  unfold more
  split <;> simp
/-- the sorted texts of such keys -/
theorem sorted_is {ks : List Wd} {ys : List Str} (p : ys.Perm (ks.map mkS)) (u : SrtO.UpS ys) (d : ks.Nodup) : ys = (asc ks).map mkS := by
  have p2 : (ys.map fun y => y.cps.toList).Perm ks := by
    have z := p.map fun y : Str => y.cps.toList
    rw [List.map_map] at z
    have e : (fun y : Str => y.cps.toList) ∘ mkS = id := funext mkS_cps
    rw [e, List.map_id] at z
    exact z
  have u2 : (ys.map fun y => y.cps.toList).Pairwise (fun x y => ¬ y < x) := List.pairwise_map.mpr u
  have u3 := up_of_le u2 (p2.nodup_iff.mpr d)
  have e := up_uniq u3 (up_asc ks) fun x => by rw [mem_asc]; exact p2.mem_iff
  rw [← e, List.map_map]
  have e2 : mkS ∘ (fun y : Str => y.cps.toList) = id := funext mkS_of
  rw [e2, List.map_id]
/-! ### pairs of a word and a number, as data -/
abbrev pairD (f : Wd → Int) (p : Wd) : PyData := .tuple [.str (mkS p), .int (f p)]
def pairsD (f : Wd → Int) (l : List Wd) : PyData := .tuple (l.map (pairD f))
theorem dtAll_snoc {H : Hp} {S : Addr → Prop} {D t : Addr} {vs ws : List V} {ds : List PyData} {d : PyData} {o : HO} (h : DtAll H S vs ds) (hS : ∀ a, S a → a ≠ D) (ht : H t = none) (st : S t) (e : Dt (upd (upd H t (.tup ws)) D o) S (.ref t) d) :
    DtAll (upd (upd H t (.tup ws)) D o) S (vs ++ [.ref t]) (ds ++ [d]) := by
  refine DtAll.append (h.mono (fun a u sa hu => ?_) fun _ _ s _ => s) (.cons e .nil)
  rw [upd_ne (hS a sa), upd_ne (ne_of_none hu ht)]
  exact hu
end Vm

set_option Elab.async false
set_option linter.all false
set_option maxRecDepth 100000
set_option maxHeartbeats 4000000
namespace Vs
open PySem PySem.Spec PyProof.Rows L2 SrtO Vm
open PySem.Froz (SD sObj addTx tailTx sing TxOk)
section
variable {P : Program} {w : World} {A : Around} {E : Value → Shared → Prop} {s : Shared}
theorem mkS_nodup {ks : List Wd} (h : ks.Nodup) : (ks.map mkS).Nodup := List.Pairwise.map mkS (fun a b n e => n (mkS_inj e)) h
/-- sorted(set of texts), any number of them -/
theorem sorted_set_any {a : Addr} {D : SD} {l : List Str} {Q : Value → Shared → Prop} (ho : s.heap.get? a = some (sObj "set" D)) (F : Tx P w D l) (hh : A.handled = none) (hl : l.length < scanBound)
    (h : ∀ (s' : Shared) p (out : List Value) (c : Nat) (ys : List Str), (∀ b o, s.heap.get? b = some o → s'.heap.get? b = some o) → s'.gens = s.gens → s'.os = s.os → s.heap.objs.size ≤ p →
      s'.heap.get? p = some (seqObj "list" out.toArray c) → StrsAre out ys → ys.Perm l → UpS ys → Q (.ref p) s') :
    wpAny (model P w) A (call (.builtin "sorted") [.ref a]) Q E s := by
  obtain ⟨v1, v2⟩ := F.vals
  have hsz : D.1.size = l.length := F.ok.sz
  refine Calls.call_function_entry kind_sorted plain_sorted entry_sorted (args_sorted1 _) ?_
  unfold Builtin.«sorted»
  refine wpAny_bind (m := checkCount "sorted" 1 1 _) (wpAny_pure ?_)
  refine wpAny_bind (collect_set (A := A.in1) (es := D.1) (ep := D.2.1) (t := D.2.2) hh ⟨_, ho, rfl, rfl⟩ F.ok.fit (by rw [hsz]; exact hl) F.ris F.led fun s1 vs k1 z1 g1 o1 pm => ?_)
  have len : vs.length = l.length := by rw [pm.length_eq, List.length_map, Array.length_toList, hsz]
  have hS : StrsAre vs (vs.map strOf) := strs_of vs fun v hv => by
    obtain ⟨e, he, rfl⟩ := List.mem_map.mp (pm.mem_iff.mp hv)
    obtain ⟨k, tk, q, _⟩ := v1 e he
    exact ⟨k, tk, q⟩
  have pl : (vs.map strOf).Perm l := (pm.map strOf).trans (by rw [List.map_map]; exact v2)
  have hz : vs.length ≤ sizeLine := by
    rw [len, sizeLine_eq]
    exact Nat.le_trans (Nat.le_of_lt hl) (by decide)
  refine sort_collected hS hz fun h' p out c ys k2 hp hc y1 y2 y3 => ?_
  exact wpAny_pure ⟨_, rfl, h _ p out c ys (fun b u e => k2 b u (k1 b u e)) g1 o1 (Nat.le_trans z1 hp) hc y1 (y2.trans pl) y3⟩
end
section
variable {X : Cx}
/-- set(d) -/
theorem cr_setDict (hc : X.calm = true) : CallR X (.type "set") (fun xs H Q => ∃ (a : Addr) (f : Wd → V) (ks : List Wd), xs = [.ref a] ∧ Rd H a (.dK (entK f ks)) ∧ ks.Nodup ∧ ks.length ≤ 4000 ∧ ∀ p l, H p = none → l.Perm (ks.map mkS) → Q (.ref p) (upd H p (SetTxO X.prog X.w p l))) := by
  intro pins s σ H vs us Q I r h
  obtain ⟨a, f, ks, rfl, ha, nd, hl, q⟩ := h
  rw [Vals.ref1 r]
  obtain ⟨z, lo, ws, rel, dd⟩ := dk_rd I.hok ha
  have hkeys : ws.map (·.1) = (ks.map mkS).map Sum.inr := rel.keys.symm.trans (entK_keys f ks)
  refine call_set_dict dd lo hkeys (by rw [List.length_map]; exact hl) fun s' D l k g o hS F hm hn => ?_
  exact laid_new I k g o (Nat.le_refl _) (setTxO_new ⟨D, hS, F⟩) fun hn' => q _ l hn' ((perm_same (ks.map mkS) l (mkS_nodup nd) (fun k hk => (hm k).mpr hk) (Nat.le_of_eq hn)))
/-- sorted(set of texts) -/
theorem cr_sortedTxK (hc : X.calm = true) : CallR X (.builtin "sorted") (fun xs H Q => ∃ (a : Addr) (l : List Str) (ks : List Wd), xs = [.ref a] ∧ H a = some (SetTxO X.prog X.w a l) ∧ l.Perm (ks.map mkS) ∧ ks.Nodup ∧ ks.length ≤ 4000 ∧
    ∀ p, H p = none → Q (.ref p) (upd H p (.lst (((asc ks).map mkS).map .str)))) := by
  intro pins s σ H vs us Q I r h
  obtain ⟨a, l, ks, rfl, ha, pl, nd, hl, q⟩ := h
  rw [Vals.ref1 r]
  obtain ⟨D, hS, F⟩ : SetTx X.prog X.w s.heap a l := (I.hok a _ ha).1
  have ll : l.length = ks.length := by rw [pl.length_eq, List.length_map]
  refine sorted_set_any hS F (I.ok.hd hc) (by rw [ll]; exact Nat.lt_of_le_of_lt hl (by decide)) fun s' p out c ys k g o hp hg hv pm so => ?_
  have e := sorted_is (pm.trans pl) so nd
  have len : (ys.map V.str).length ≤ sizeLine := by
    rw [List.length_map, pm.length_eq, ll, sizeLine_eq]
    omega
  have new : ObjOk X.prog X.w (upd H p (.lst (ys.map V.str))) s'.heap p (.lst (ys.map .str)) := ⟨len, out, c, vals_of_strs hv, hg⟩
  refine laid_new I k g o hp new fun hn => ?_
  rw [e]
  exact q p hn
theorem cr_setDictAt {P : Program} {w : World} (hc : X.calm = true) (eP : X.prog = P) (ew : X.w = w) : CallR X (.type "set") (fun xs H Q => ∃ (a : Addr) (f : Wd → V) (ks : List Wd), xs = [.ref a] ∧ Rd H a (.dK (entK f ks)) ∧ ks.Nodup ∧ ks.length ≤ 4000 ∧ ∀ p l, H p = none → l.Perm (ks.map mkS) → Q (.ref p) (upd H p (SetTxO P w p l))) := by
  subst eP
  subst ew
  exact cr_setDict hc
theorem cr_sortedTxAt {P : Program} {w : World} (hc : X.calm = true) (eP : X.prog = P) (ew : X.w = w) : CallR X (.builtin "sorted") (fun xs H Q => ∃ (a : Addr) (l : List Str) (ks : List Wd), xs = [.ref a] ∧ H a = some (SetTxO P w a l) ∧ l.Perm (ks.map mkS) ∧ ks.Nodup ∧ ks.length ≤ 4000 ∧
    ∀ p, H p = none → Q (.ref p) (upd H p (.lst (((asc ks).map mkS).map .str)))) := by
  subst eP
  subst ew
  exact cr_sortedTxK hc
/-- sorted(d), the keys texts -/
theorem cr_sortedDK (hc : X.calm = true) : CallR X (.builtin "sorted") (fun xs H Q => ∃ (a : Addr) (f : Wd → V) (ks : List Wd), xs = [.ref a] ∧ Rd H a (.dK (entK f ks)) ∧ ks.Nodup ∧ ks.length ≤ 4000 ∧
    ∀ p, H p = none → Q (.ref p) (upd H p (.lst (((asc ks).map mkS).map .str)))) := by
  intro pins s σ H xs us Q I r q
  obtain ⟨a, f, kl, ex, hd, nd, hl4, q⟩ := q
  subst ex
  rw [Vals.ref1 r]
  obtain ⟨z, lo, vs, rel, dd⟩ := dk_rd I.hok hd
  obtain ⟨ep, hat⟩ := dd.dictAt
  generalize hkk : kl.map mkS = ks
  have hkeys : vs.map (·.1) = ks.map Sum.inr := by rw [← hkk]; exact rel.keys.symm.trans (entK_keys f kl)
  have hl : vs.length = ks.length := by
    have e := congrArg List.length hkeys
    rw [List.length_map, List.length_map] at e
    exact e
  have hl5 : ks.length ≤ 4000 := by rw [← hkk, List.length_map]; exact hl4
  have h16 : vs.length ≤ sizeLine := by rw [hl, sizeLine_eq]; omega
  refine Calls.call_function_entry PyProof.Rows.kind_sorted PyProof.Rows.plain_sorted PyProof.Rows.entry_sorted (PyProof.Rows.args_sorted1 _) ?_
  unfold Builtin.«sorted»
  refine wpAny_bind (m := checkCount "sorted" 1 1 _) (wpAny_pure ?_)
  refine wpAny_bind (PySem.W.kdu_collect (A := X.A.in1) (PySem.W.kdl_dict (knd := mixKind X.prog X.w) (kvs := vs) (ep := ep) lo) (I.ok.hd hc) hat h16 fun h' tk acc hk hacc => ?_)
  have hal : acc.toList.length = ks.length := by rw [Array.length_toList, hacc.1, hl]
  have hS : StrsAre acc.toList ks := strs_at hal fun j v e => by
    obtain ⟨k, x, e1, e2⟩ := hacc.2 j v (by rw [← Array.getElem?_toList]; exact e)
    have e3 : (vs.map (·.1))[j]? = some k := by rw [List.getElem?_map, e1]; all_goals rfl
    rw [hkeys, List.getElem?_map] at e3
    cases e4 : ks[j]? with
    | none => rw [e4] at e3; cases e3
    | some y =>
      rw [e4] at e3
      have e5 : Sum.inr y = k := Option.some.inj e3
      subst e5
      obtain ⟨t, ev⟩ := Value.isStrOf_shape (x := y) (v := v) e2
      exact ⟨y, t, rfl, ev⟩
  have I1 : Inv X pins σ H { s with heap := h', toks := tk } := I.kept hk
  have hz : acc.toList.length ≤ sizeLine := by rw [hal, sizeLine_eq]; omega
  refine sort_collected (s1 := { s with heap := h', toks := tk }) hS hz fun h2 p out c ys k2 hp hc2 y1 y2 y3 => ?_
  have e := sorted_is (by rw [hkk]; exact y2) y3 nd
  have len : (ys.map V.str).length ≤ sizeLine := by
    rw [List.length_map, y2.length_eq, sizeLine_eq]
    omega
  have new : ObjOk X.prog X.w (upd H p (.lst (ys.map V.str))) h2 p (.lst (ys.map .str)) := ⟨len, out, c, vals_of_strs y1, hc2⟩
  refine wpAny_pure ⟨_, rfl, laid_new (s' := { s with heap := h2, toks := tk }) I1 k2 rfl rfl hp new fun hn => ?_⟩
  rw [e]
  exact q p hn
end
end Vs

set_option Elab.async false
set_option linter.all false
set_option maxRecDepth 100000
set_option maxHeartbeats 4000000
namespace Vm
open PySem PySem.Spec PyProof.Rows L2 L2.Vx
/-! ### texts: joined signs, so many times, slices, find -/
theorem glue0 : ∀ (l : List Str) (a : Array Nat), (l.foldl (fun acc p => acc ++ (#[] : Array Nat) ++ p.cps) a).toList = a.toList ++ l.flatMap (fun p => p.cps.toList)
  | [], a => by simp
  | p :: r, a => by
    rw [List.foldl_cons, glue0 r]
    simp
theorem join_cps (ys : List Str) : (PySem.Txt.join "" ys).cps.toList = ys.flatMap fun y => y.cps.toList := by
  show ((ys.drop 1).foldl (fun acc p => acc ++ (#[] : Array Nat) ++ p.cps) (ys.headD Str.empty).cps).toList = _
  rw [glue0]
  cases ys with
  | nil => rfl
  | cons y r => simp
theorem join_signs (us : Wd) : PySem.Txt.join "" (us.map fun c => mkS [c]) = mkS us := by
  rw [← mkS_of (PySem.Txt.join "" (us.map fun c => mkS [c])), join_cps]
  congr 1
  induction us with
  | nil => rfl
  | cons c r ih =>
    rw [List.map_cons, List.flatMap_cons, ih]
    rfl
theorem sum_signs : ∀ us : Wd, ((us.map fun c => mkS [c]).map (·.length)).sum = us.length
  | [] => rfl
  | c :: r => by
    rw [List.map_cons, List.map_cons, List.sum_cons, sum_signs r, List.length_cons]
    show 1 + r.length = _
    omega
theorem fold_rep (x : Array Nat) : ∀ (n : Nat) (a : Array Nat), ((List.replicate n x).foldl (· ++ ·) a).toList = a.toList ++ (List.replicate n x.toList).flatten
  | 0, a => by simp
  | n + 1, a => by
    rw [List.replicate_succ, List.foldl_cons, fold_rep x n, List.replicate_succ, List.flatten_cons]
    simp
/-- a word so many times -/
def times (n : Nat) (z : Wd) : Wd := (List.replicate n z).flatten
theorem times_length (n : Nat) (z : Wd) : (times n z).length = n * z.length := by
  unfold times
  rw [List.length_flatten, List.map_replicate, List.sum_replicate_nat]
theorem times_mem {n : Nat} {z : Wd} {c : Nat} (h : c ∈ times n z) : c ∈ z := by
  obtain ⟨l, hl, hc⟩ := List.mem_flatten.mp h
  rw [List.eq_of_mem_replicate hl] at hc
  exact hc
theorem mul_times (z : Wd) (n : Nat) : PySem.Txt.mul (mkS z) (n : Int) = mkS (times n z) := by
  unfold PySem.Txt.mul
  by_cases h0 : (n : Int) < 1
  · rw [if_pos h0]
    obtain rfl : n = 0 := by omega
    rfl
  · rw [if_neg h0]
    by_cases h1 : ((n : Int) == 1 || (mkS z).length == 0) = true
    · rw [if_pos h1]
      rcases Bool.or_eq_true_iff.mp h1 with e | e
      · obtain rfl : n = 1 := by
          have := eq_of_beq e
          omega
        simp [times]
      · have e2 : z.length = 0 := by
          have := eq_of_beq e
          rw [mkS_length] at this
          exact this
        obtain rfl : z = [] := List.length_eq_zero_iff.mp e2
        have e3 : times n [] = [] := List.length_eq_zero_iff.mp (by rw [times_length]; simp)
        rw [e3]
    · rw [if_neg h1]
      have e : (n : Int).toNat = n := by omega
      rw [e, ← mkS_of (⟨_⟩ : Str)]
      congr 1
      show ((List.replicate n (mkS z).cps).foldl (· ++ ·) #[]).toList = _
      rw [fold_rep, mkS_cps]
      rfl
theorem mulOk_of {z : Wd} {n : Nat} (h1 : z.length ≤ 4000) (h2 : n ≤ 4000) : MulOk (mkS z) (n : Int) := by
  unfold MulOk
  rw [mkS_length]
  have e : (n : Int).toNat = n := by omega
  rw [e]
  refine ⟨?_, fun h3 _ h5 => ?_, fun _ _ => ?_⟩
  · have a1 : ¬ (n : Int) < -(2 ^ 63 : Int) := by omega
    have a2 : ¬ (n : Int) ≥ 2 ^ 63 := by omega
    rw [decide_eq_false a1, decide_eq_false a2]
    rfl
  · have : (4000 : Int) ≤ (2 ^ 63 - 1) / n := by
      rw [Int.le_ediv_iff_mul_le (by omega)]
      omega
    omega
  · have : z.length * n ≤ 4000 * 4000 := Nat.mul_le_mul h1 h2
    unfold Builtin.Str.tooLong
    rw [decide_eq_false]
    rw [sizeLine_eq]
    omega
theorem cut_head {z : Wd} (n : Nat) : cutS (mkS z) none (some (n : Int)) = mkS (z.take n) := by
  unfold cutS
  rw [mkS_length, mkS_cps]
  have e1 : HT.sIx z.length 0 none = 0 := rfl
  have e2 : HT.sIx z.length z.length (some (n : Int)) = min n z.length := HT.sIx_nat _ _ n
  rw [e1, e2, List.drop_zero, Nat.sub_zero]
  show mkS (z.take (min n z.length)) = _
  congr 1
  rw [List.take_eq_take_iff]
  omega
/-- find from a place on -/
theorem at_win {k : Nat} {z p : Wd} (hp : p.length = k) (i : Nat) : StrLaws.At (mkS z) (mkS p) (mkS z).length i ↔ i < z.length + 1 - k ∧ win k z i = p := by
  unfold StrLaws.At
  rw [StrLaws.subAt_eq, mkS_length, mkS_length, mkS_cps, mkS_cps, hp, beq_iff_eq]
  constructor
  · rintro ⟨h1, h2⟩
    exact ⟨by omega, h2⟩
  · rintro ⟨h1, h2⟩
    exact ⟨by omega, h2⟩
theorem find3_win {k j : Nat} {z p : Wd} (hp : p.length = k) (hj : j ≤ z.length) :
    (PySem.Txt.find3 (mkS z) (mkS p) (j : Int) = -1 ∧ ∀ i, j ≤ i → i < z.length + 1 - k → win k z i ≠ p) ∨
    ∃ i : Nat, PySem.Txt.find3 (mkS z) (mkS p) (j : Int) = (i : Int) ∧ j ≤ i ∧ i < z.length + 1 - k ∧ win k z i = p ∧ ∀ i', j ≤ i' → i' < i → i' < z.length + 1 - k → win k z i' ≠ p := by
  have ef : fromIndex (mkS z).length (j : Int) = j := by
    rw [mkS_length]
    simp [fromIndex]
    try omega
  unfold PySem.Txt.find3
  rw [ef]
  rcases StrLaws.occ_head_from (mkS z) (mkS p) j 1 (Nat.le_refl 1) with ⟨h0, hn⟩ | ⟨i, r, h0, hlo, hk, hn⟩
  · rw [h0]
    exact .inl ⟨rfl, fun i h1 h2 e => hn i h1 ((at_win hp i).mpr ⟨h2, e⟩)⟩
  · rw [h0]
    obtain ⟨h2, e⟩ := (at_win hp i).mp hk
    exact .inr ⟨i, rfl, hlo, h2, e, fun i' h3 h4 h5 e' => hn i' h3 h4 ((at_win hp i').mpr ⟨h5, e'⟩)⟩
theorem find_win {k : Nat} {z p : Wd} (hp : p.length = k) :
    (PySem.Txt.find (mkS z) (mkS p) = -1 ∧ ∀ i, 0 ≤ i → i < z.length + 1 - k → win k z i ≠ p) ∨
    ∃ i : Nat, PySem.Txt.find (mkS z) (mkS p) = (i : Int) ∧ 0 ≤ i ∧ i < z.length + 1 - k ∧ win k z i = p ∧ ∀ i', 0 ≤ i' → i' < i → i' < z.length + 1 - k → win k z i' ≠ p := by
  rw [find_is_find3]
  exact find3_win (j := 0) hp (Nat.zero_le _)
/-- what the search has found so far -/
def Seen (k : Nat) (z p : Wd) (found at_ : Int) : Prop := (at_ = -1 ∧ found = (often k z p : Nat)) ∨ ∃ i : Nat, at_ = (i : Int) ∧ i < z.length + 1 - k ∧ win k z i = p ∧ found = (upto k z p i : Nat)
theorem seen_start {k : Nat} {z p : Wd} (hp : p.length = k) : Seen k z p 0 (PySem.Txt.find (mkS z) (mkS p)) := by
  have e0 : upto k z p 0 = 0 := rfl
  rcases find_win (z := z) hp with ⟨h, hn⟩ | ⟨i, h, _, h1, h2, h3⟩
  · refine .inl ⟨h, ?_⟩
    have e := upto_none (Nat.zero_le (z.length + 1 - k)) fun i a b c => hn i a c
    rw [upto_all (Nat.le_refl _), e0] at e
    rw [e]
    rfl
  · refine .inr ⟨i, h, h1, h2, ?_⟩
    rw [upto_none (Nat.zero_le i) h3, e0]
    rfl
theorem seen_next {k i : Nat} {z p : Wd} (hp : p.length = k) (hk : 1 ≤ k) (h1 : i < z.length + 1 - k) (h2 : win k z i = p) : Seen k z p ((upto k z p i : Nat) + 1) (PySem.Txt.find3 (mkS z) (mkS p) ((i : Int) + 1)) := by
  have e0 := upto_hit h1 h2
  have ej : ((i : Int) + 1) = ((i + 1 : Nat) : Int) := by omega
  rw [ej]
  rcases find3_win (z := z) (j := i + 1) hp (by omega) with ⟨h, hn⟩ | ⟨j, h, h0, h3, h4, h5⟩
  · refine .inl ⟨h, ?_⟩
    have e := upto_none (k := k) (z := z) (p := p) (a := i + 1) (b := z.length + 1 - k) (by omega) fun i' a b c => hn i' a c
    rw [upto_all (Nat.le_refl _), e0] at e
    rw [e]
    omega
  · refine .inr ⟨j, h, h3, h4, ?_⟩
    rw [upto_none h0 h5, e0]
    omega
end Vm

set_option Elab.async false
set_option linter.all false
set_option maxRecDepth 100000
set_option maxHeartbeats 4000000
namespace Vf
open PySem PySem.Spec PyProof.Rows L2 L2.Vx Vs
/-! ### calls by keyword alone; a text so many times -/
section
variable {X : Cx} {CX : CXT} {k : Nat} {f : Addr} {fd : FuncData} {ps ks : List Str} {sp : Sp} {E : XK} {x : Str} {p pos : Pos} {kws : List Keyword} {tk : TA} {g : List Value → List Value → List Value} {gV : List V → List V → List V}
def tCallK0 (sp : Sp) (gV : List V → List V → List V) (E : XK) (tk : TA) : TE := fun σ H Q => tk σ H fun zs H2 => sp (gV [] zs) H2 Q E
theorem pe_callK0 (F : FnOk X.prog X.w X.K X.mg X.base CX k f fd ps sp) (hr : Room k X.A) (hm : X.mg x = some (.ref f)) (hk : PySem.W.keepIn X.K (.ref f) = true) (hb : KBinds X.K fd ps ks g gV) (hx : Passes CX X E) (hkw : PK X kws tk)
    (hg : Gl X x := by rfl) (hall : (backToKw pos (keywordEach kws X.env)).all (·.1.isSome) = true := by rfl) (hks : (backToKw pos (keywordEach kws X.env)).filterMap (·.1) = ks := by rfl) (hdb : (x == ("__debug__" : Str)) = false := by decide)
    (hpl : ((backTo pos (starEach [] X.env)).any (·.1) || (backToKw pos (keywordEach kws X.env)).any (·.1.isNone)) = false := by rfl) : PE X (.Call (.Name x p) [] kws pos) (tCallK0 sp gV E tk) := by
  refine ⟨fun pins s σ H Q I h => ?_⟩
  refine wpAny_Call_Name_kw (ld_glob I hg hm ?_ hdb)
  refine PySem.W.callWith_KW0 (h₀ := X.base) I.ok.mod.kin hk hall (thn (hkw.run pos pins s σ H _ I h) fun ws s2 ⟨zs, H2, I2, rz, q2⟩ => ⟨I2.kIn, ?_⟩) hpl
  rw [hks]
  exact run_fnk F hr hb hx I2 .nil rz q2
theorem op_mul_str : OpR X (binaryOp .Mult) (fun x y H Q => ∃ a n, x = .str a ∧ y = .int n ∧ MulOk a n ∧ Q (.str (PySem.Txt.mul a n)) H) := by
  intro pins s σ H x y v u Q I rx ry h
  obtain ⟨a, n, rfl, rfl, ok, q⟩ := h
  obtain ⟨t, rfl⟩ := rx
  obtain ⟨t', rfl⟩ := ry
  exact SB.mul ok fun t' k => ⟨.str _, H, I.tok _, ⟨_, rfl⟩, q⟩
end
/-- by name, the last one first -/
def gRev {α : Type} : List α → List α → List α
  | [], ws => ws.reverse
  | _ :: _, _ => []
theorem vals_rev {vs : List V} {us : List Value} (r : Vals vs us) : Vals vs.reverse us.reverse := by
  induction r with
  | nil => exact .nil
  | cons h t ih =>
    rw [List.reverse_cons, List.reverse_cons]
    have app : ∀ {as : List V} {bs : List Value} {cs : List V} {ds : List Value}, Vals as bs → Vals cs ds → Vals (as ++ cs) (bs ++ ds) := by
      intro as bs cs ds a b
      induction a with
      | nil => exact b
      | cons h _ ih => exact .cons h ih
    exact app ih (.cons h .nil)
theorem gRev_vals {v1 v2 : List V} {u1 u2 : List Value} (r1 : Vals v1 u1) (r2 : Vals v2 u2) : Vals (gRev v1 v2) (gRev u1 u2) := by
  cases r1 with
  | nil => exact vals_rev r2
  | cons _ _ => exact .nil
end Vf

set_option Elab.async false
set_option linter.all false
set_option maxRecDepth 100000
set_option maxHeartbeats 4000000
namespace Vm
open PySem PySem.Spec PyProof.Rows L2 L2.Vx
/-! ### data that can be shown, and how long that is -/
structure Fit (b e : Nat) (D : PyData) : Prop where
  sh : D.showable = true
  len : D.shown.length ≤ b
  dep : D.depth ≤ e
theorem Fit.le {b e b' e' : Nat} {D : PyData} (h : Fit b e D) (h1 : b ≤ b') (h2 : e ≤ e') : Fit b' e' D := ⟨h.sh, Nat.le_trans h.len h1, Nat.le_trans h.dep h2⟩
theorem fit_str {z : Wd} {n : Nat} (h : ∀ c ∈ z, c < 1000) (hn : z.length ≤ n) : Fit (10 * n + 2) 0 (.str (mkS z)) := by
  refine ⟨rfl, ?_, by simp [PyData.depth]⟩
  show (PySem.reprText (mkS z)).length ≤ _
  have q := StrLaws.reprText_len (mkS z) fun c hc => by
    rw [mkS_cps] at hc
    exact Nat.lt_trans (h c hc) (by decide)
  rw [mkS_length] at q
  omega
theorem fit_int {n : Int} (h0 : 0 ≤ n) (h1 : n < 10 ^ 10) : Fit 10 0 (.int n) := by
  refine ⟨?_, ?_, by simp [PyData.depth]⟩
  · show decide (n.natAbs.log2 < 1920) = true
    refine decide_eq_true ?_
    have a : n.natAbs < 2 ^ 40 := Nat.lt_of_lt_of_le (show n.natAbs < 10 ^ 10 by omega) (by decide)
    by_cases c : n.natAbs = 0
    · rw [c]; decide
    · exact Nat.lt_trans ((Nat.log2_lt c).mpr a) (by decide)
  · exact toString_length_le h0 (by decide) h1
theorem fit_all {b e : Nat} : ∀ {ds : List PyData}, (∀ x ∈ ds, Fit b e x) → PyData.showableAll ds = true ∧ ((PyData.shownAll ds).map (·.length)).sum ≤ ds.length * b ∧ (PyData.shownAll ds).length = ds.length ∧ PyData.depthAll ds ≤ e
  | [], _ => ⟨rfl, by simp [PyData.shownAll], rfl, Nat.zero_le _⟩
  | x :: r, h => by
    obtain ⟨i1, i2, i3, i4⟩ := fit_all fun y hy => h y (List.mem_cons_of_mem _ hy)
    have hx := h x (List.mem_cons_self ..)
    have h2 := hx.len
    have h3 := hx.dep
    refine ⟨by simp only [PyData.showableAll, hx.sh, i1, Bool.and_self], ?_, ?_, ?_⟩
    · simp only [PyData.shownAll, List.map_cons, List.sum_cons, List.length_cons, Nat.add_mul, Nat.one_mul]
      omega
    · simp only [PyData.shownAll, List.length_cons, i3]
    · simp only [PyData.depthAll]
      exact Nat.max_le.mpr ⟨h3, i4⟩
theorem fit_tup {b e : Nat} {ds : List PyData} (h : ∀ x ∈ ds, Fit b e x) : Fit (ds.length * (b + 2) + 3) (e + 1) (.tuple ds) := by
  obtain ⟨i1, i2, i3, i4⟩ := fit_all h
  refine ⟨by simpa only [PyData.showable] using i1, ?_, by simp only [PyData.depth]; omega⟩
  simp only [PyData.shown]
  refine Nat.le_trans (tupleText_len_le _) ?_
  rw [i3, Nat.mul_add]
  omega
theorem fit_lst {b e : Nat} {ds : List PyData} (h : ∀ x ∈ ds, Fit b e x) : Fit (ds.length * (b + 2) + 3) (e + 1) (.list ds) := by
  obtain ⟨i1, i2, i3, i4⟩ := fit_all h
  refine ⟨by simpa only [PyData.showable] using i1, ?_, by simp only [PyData.depth]; omega⟩
  simp only [PyData.shown]
  refine Nat.le_trans (listText_len_le _) ?_
  rw [i3, Nat.mul_add]
  omega
/-- a tuple of pairs of words of at most n signs and numbers -/
theorem fit_pairs {f : Wd → Int} {l : List Wd} {n m : Nat} (h1 : ∀ p ∈ l, p.length ≤ n ∧ (∀ c ∈ p, c < 1000) ∧ 0 ≤ f p ∧ f p < 10 ^ 10) (hl : l.length ≤ m) (hn : n ≤ 100) : Fit (m * (2 * (10 * n + 14) + 5) + 3) 2 (pairsD f l) := by
  have one : ∀ x ∈ l.map (pairD f), Fit (2 * (10 * n + 14) + 3) 1 x := by
    intro x hx
    obtain ⟨p, hp, rfl⟩ := List.mem_map.mp hx
    obtain ⟨a1, a2, a3, a4⟩ := h1 p hp
    refine (fit_tup (b := 10 * n + 12) (e := 0) fun y hy => ?_).le (by simp) (Nat.le_refl _)
    rcases List.mem_cons.mp hy with rfl | hy
    · exact (fit_str a2 a1).le (by omega) (Nat.le_refl _)
    · rw [List.mem_singleton.mp hy]
      exact (fit_int a3 a4).le (by omega) (Nat.le_refl _)
  refine (fit_tup one).le ?_ (Nat.le_refl _)
  rw [List.length_map, show 2 * (10 * n + 14) + 3 + 2 = 2 * (10 * n + 14) + 5 by omega]
  have := Nat.mul_le_mul_right (2 * (10 * n + 14) + 5) hl
  omega
theorem Fit.shows {b e : Nat} {D : PyData} (h : Fit b e D) (h1 : b ≤ 1000000) (h2 : e ≤ 60) : Shows D := ⟨h.sh, Nat.le_trans h.len h1, Nat.le_trans h.dep h2⟩
end Vm
namespace Vf
open PySem PySem.Spec PyProof.Rows L2 L2.Vx
/-! ### a def that is called where repr is allowed, by one that is called so -/
section
variable {X : Cx} {k : Nat} {f : Addr} {fd : FuncData} {ps : List Str} {sp : Sp} {E : XK} {x : Str} {p pos : Pos} {ds : List Value} {dvs : List V} {t : TA} {e : Expr} {es : List Expr}
theorem run_fnG {pins : List (Addr × Obj)} {σ : L2.St} {H : Hp} {s : Shared} {Q : VK} {us : List Value} {vs : List V} (F : FnG X.prog X.w X.K X.mg X.base k f fd ps sp) (len : ∀ vs H Q E, sp vs H Q E → vs.length = ps.length) (hgd : X.A.guards = some []) (hr : Room k X.A)
    (hb : L2.Binds X.K fd ps ds) (hd : Vals dvs ds) (hx : Passes CX0 X E) (I : Inv X pins σ H s) (r : Vals vs us) (h : sp (vs ++ dvs) H Q E) : wpAny (model X.prog X.w) X.A (call (.ref f) us) (EP X pins σ Q) X.xe s := by
  have both : Vals (vs ++ dvs) (us ++ ds) := r.append hd
  have many : (us ++ ds).length = ps.length := by rw [← both.length]; exact len _ _ _ _ h
  refine wpAny_call (codeAny_mono (F.run X.A X.stack s H ⟨us, []⟩ (us ++ ds) (vs ++ dvs) Q E hr hgd I.env0 (hb s us I.kIn many) both h) fun res s' hq => ?_)
  match res, hq with
  | .error err, hq => exact hx pins σ H s err s' I hq
  | .ok (.ret u), hq => exact I.after hq
  | .ok .next, hq => exact False.elim hq
  | .ok .brk, hq => exact False.elim hq
  | .ok .cont, hq => exact False.elim hq
theorem pe_callG (F : FnG X.prog X.w X.K X.mg X.base k f fd ps sp) (len : ∀ vs H Q E, sp vs H Q E → vs.length = ps.length) (hgd : X.A.guards = some []) (hr : Room k X.A) (hg : Gl X x) (hm : X.mg x = some (.ref f)) (hk : PySem.W.keepIn X.K (.ref f) = true) (hb : L2.Binds X.K fd ps ds) (hd : Vals dvs ds) (hx : Passes CX0 X E)
    (ha : PA X (e :: es) t) (hdb : (x == ("__debug__" : Str)) = false := by decide) (he : starEach (e :: es) X.env = (false, eval e X.env) :: starEach es X.env := by rfl) (hpl : (backTo pos (starEach es X.env)).any (·.1) = false := by rfl) :
    PE X (.Call (.Name x p) (e :: es) [] pos) (tCall sp dvs E t) := by
  refine ⟨fun pins s σ H Q I h => wpAny_Call_Name_kw (ld_glob I hg hm ?_ hdb)⟩
  refine PySem.W.callWith_K (h₀ := X.base) I.ok.mod.kin hk (thn (ha.run pos pins s σ H _ I h) fun us s1 ⟨vs, H1, I1, r, q⟩ => ⟨I1.kIn, ?_⟩) he hpl
  exact run_fnG F len hgd hr hb hd hx I1 r q
end
end Vf

set_option Elab.async false
set_option linter.all false
set_option maxRecDepth 100000
set_option maxHeartbeats 4000000
namespace Vs
open PySem PySem.Spec PyProof.Rows L2 SrtO Vm
theorem strs_vals : ∀ {l : List Str} {its : List Value}, Vals (l.map V.str) its → StrsAre its l
  | [], its, h => by cases h; exact .nil
  | x :: l, its, h => by
    rw [List.map_cons] at h
    cases h with
    | cons r rr =>
      obtain ⟨t, rfl⟩ := r
      exact .cons _ _ (strs_vals rr)
section
variable {X : Cx}
/-- sorted(xs), texts, any number of them -/
theorem cr_sortedTL : CallR X (.builtin "sorted") (fun xs H Q => ∃ (a : Addr) (ks : List Wd), xs = [.ref a] ∧ SqL X.K H a ((ks.map mkS).map .str) ∧
    ∀ (ms : List Wd) p, ms.Perm ks → ms.Pairwise (fun x y => ¬ y < x) → H p = none → Q (.ref p) (upd H p (.lst ((ms.map mkS).map .str)))) := by
  intro pins s σ H vs us Q I r h
  obtain ⟨a, ks, rfl, hs, q⟩ := h
  obtain ⟨its, rv, hl, hz⟩ := I.list hs
  rw [Vals.ref1 r]
  have hi := strs_vals rv
  refine SrtO.sorted_ord SrtO.swo_text hl.isList (by rw [← rv.length]; exact hz) (fun h2 h₁ a' _ _ => SrtO.texts_sortable hi h2) fun out h1 h2 => ?_
  obtain ⟨k1, k2, k3⟩ := SrtO.texts_out hi h1 h2
  obtain ⟨ep, he'⟩ := PyProof.Rows.sortedAll_at s.heap its out.toArray
  have e : out.map strOf = ((out.map strOf).map fun y => y.cps.toList).map mkS := by
    rw [List.map_map, show (mkS ∘ fun y : Str => y.cps.toList) = id from funext fun y => mkS_of y, List.map_id]
  have pm : ((out.map strOf).map fun y => y.cps.toList).Perm ks := by
    have z := k2.map fun y : Str => y.cps.toList
    rw [List.map_map (l := ks)] at z
    have e2 : (fun y : Str => y.cps.toList) ∘ mkS = id := funext mkS_cps
    rw [e2, List.map_id] at z
    exact z
  have up : ((out.map strOf).map fun y => y.cps.toList).Pairwise (fun x y => ¬ y < x) := List.pairwise_map.mpr k3
  have hlen : ((out.map strOf).map V.str).length ≤ sizeLine := by
    rw [List.length_map, k2.length_eq]
    rw [List.length_map] at hz
    exact hz
  have fin := q _ (s.heap.objs.size + 1) pm up (I.hok.fresh (Nat.le_succ _))
  rw [← e] at fin
  exact ⟨.ref _, upd H (s.heap.objs.size + 1) (.lst ((out.map strOf).map V.str)), I.laid (t' := s.toks) (fun _ _ => PyProof.Rows.sortedAll_old) (Nat.le_succ _) ⟨hlen, out, ep, vals_of_strs k1, he'⟩, rfl, fin⟩
/-- z[::-1] -/
def tRevS (te : TE) : TE := fun σ H Q => te σ H fun x H1 => ∃ z : Wd, x = .str (mkS z) ∧ z.length ≤ sizeLine ∧ Q (.str (mkS z.reverse)) H1
theorem rev_idx (n : Nat) : Builtin.Str.strSliceIndices none none (-1) n = (List.range n).reverse := by
  have e : Builtin.Str.strSliceIndices none none (-1) n = sliceRange ((n : Int) - 1) (-1) (-1) := rfl
  rw [e, PySem.W.krv_sliceRange, PySem.W.krv_range]
theorem rev_text (z : Wd) : (⟨((Builtin.Str.strSliceIndices none none (-1) (mkS z).length).filterMap ((mkS z).cps[·]?)).toArray⟩ : Str) = mkS z.reverse := by
  rw [rev_idx, List.filterMap_reverse]
  have e := PySem.W.krv_all (mkS z).cps
  have e2 : (mkS z).length = (mkS z).cps.size := rfl
  rw [e2, e, mkS_cps]
  rfl
theorem pe_revS {e : Expr} {te : TE} {k : Nat} {p1 p2 p3 pos : Pos} (he : PE X e te) : PE X (.Subscript e (.Slice none none (some (.UnaryOp .USub (.Constant (.int 1) k p1) p2)) p3) pos) (tRevS te) := by
  refine ⟨fun pins s σ H Q I h => ?_⟩
  refine Subscript_ (thn (he.run pins s σ H _ I h) fun v s1 ⟨x, H1, I1, r1, q1⟩ => ?_)
  obtain ⟨z, ex, hx, q⟩ := q1
  subst ex
  obtain ⟨t, rfl⟩ := r1
  have hst : PO X (some (.UnaryOp .USub (.Constant (.int 1) k p1) p2)) (tPart (tUn (rU fun i => .int (-i)) (tC (.int 1)))) := po_some (pe_un un_neg pe_int)
  refine wpAny_Slice (thn (po_none.run pins s1 σ H1 (fun o H2 => o = none ∧ H2 = H1) I1 ⟨rfl, rfl⟩) fun vl s2 ⟨l, H2, I2, pl, el, e2⟩ => ?_)
  subst el e2
  refine thn (po_none.run pins s2 σ H2 (fun o H3 => o = none ∧ H3 = H2) I2 ⟨rfl, rfl⟩) fun vu s3 ⟨u, H3, I3, pu, eu, e3⟩ => ?_
  subst eu e3
  refine thn (hst.run pins s3 σ H3 (fun o H4 => o = some (-1) ∧ H4 = H3) I3 ⟨1, rfl, -1, rfl, rfl, rfl⟩) fun vs s4 ⟨o, H4, I4, ps, eo, e4⟩ => ?_
  subst eo e4
  have I5 : Inv X pins σ H4 { s4 with heap := s4.heap.push { cls := .type "slice", data := .fields #[vl, vu, vs] } } := I4.kept (t' := s4.toks) fun b ob q => Heap.get?_push_of_some _ q
  obtain ⟨l0, rfl, el0⟩ := IsPart.raw pl
  obtain ⟨u0, rfl, eu0⟩ := IsPart.raw pu
  obtain ⟨w0, rfl, ew0⟩ := IsPart.raw ps
  show wpAny (model X.prog X.w) X.A (subscriptTail e (.Slice none none (some (.UnaryOp .USub (.Constant (.int 1) k p1) p2)) p3) (.str (mkS z) t) (.ref s4.heap.objs.size)) (EP X pins σ Q) X.xe { s4 with heap := s4.heap.push { cls := .type "slice", data := .fields #[partValue l0, partValue u0, partValue w0] } }
  refine tail_any (ops := [.str (mkS z) t, .ref s4.heap.objs.size]) (typeIs_str _ _ _) (F.slot_str_getitem.lookup) ?_ (by with_unfolding_all rfl)
  obtain ⟨os, hos, hcs, hds⟩ := Heap.IsSliceOf.new s4.heap (partValue l0) (partValue u0) (partValue w0)
  refine wpAny_getItem_str_slice (l := l0) (u := u0) (st := w0) ⟨os, hos, hcs, hds⟩ (by rw [ew0]; rfl) ?_
  unfold sliceMade slicePicked
  rw [el0, eu0, ew0]
  rw [if_neg (by intro z; exact absurd z (by simp))]
  show Made.post (.str (⟨((Builtin.Str.strSliceIndices none none (-1) (mkS z).length).filterMap ((mkS z).cps[·]?)).toArray⟩ : Str)) (EP X pins σ Q) _
  rw [rev_text]
  refine ⟨by rw [mkS_length, List.length_reverse]; exact hx, .str _, H4, I5.tok _, ⟨_, rfl⟩, q⟩
end
end Vs

set_option Elab.async false
set_option linter.all false
set_option maxRecDepth 100000
set_option maxHeartbeats 4000000
namespace Vs
open PySem PySem.Spec PyProof.Rows L2 SrtO Vm
open PySem.Froz (SD sObj addTx tailTx sing TxOk)
section
variable {P : Program} {w : World} {A : Around} {E : Value → Shared → Prop} {s : Shared}
/-- the loop that puts the texts of a list in -/
theorem loop_txs {I : Addr} {fp wr : List Addr} {G : Array GenState → Array GenState → Prop} {n : Nat} {xs : List Str} {Pv : Nat → Value → Prop} {St : Nat → Shared → Prop} {R : Result → Shared → Prop}
    (W : WalksS P w A.in1 I fp wr G n Pv St) (S : Addr) (hSf : S ∉ fp) (hn : n = xs.length) (hb : n + 1 < scanBound) (hval : ∀ i v, Pv i v → ∃ k u, xs[i]? = some k ∧ v = .str k u) :
    ∀ (m i : Nat) (s : Shared), n - i = m → i ≤ n → St i s → (∃ D l, s.heap.get? S = some (sObj "set" D) ∧ Tx P w D l ∧ l.length ≤ i ∧ ∀ k, k ∈ l ↔ k ∈ xs.take i) →
      (∀ s' D l, Moved (S :: wr) G s s' → s'.heap.get? S = some (sObj "set" D) → Tx P w D l → l.length ≤ n → (∀ k, k ∈ l ↔ k ∈ xs) → R (.ok (.ret .none)) s') →
      codeAny (model P w) A (.builtin "set.update.loop" ⟨[.ref S, .ref I], []⟩) R s := by
  have hSw : S ∉ wr := fun h => hSf (W.sub _ h)
  have more : ∀ b ∈ wr, b ∈ S :: wr := fun b => List.mem_cons_of_mem _
  intro m
  induction m with
  | zero =>
    intro i s hm hi hst ⟨D, l, hS, F, hl, hmem⟩ hR
    obtain rfl : i = n := by omega
    refine codeAny_builtin PyProof.Rows.F.entry_set_update_loop ?_
    rw [Around.under_plainId PyProof.Rows.F.plain_set_update_loop _]
    refine wpAny_bind (W.done s _ _ hst fun s' mv => wpAny_pure (hR s' D l (mv.mono more) (mv.heap S _ hSw hS) F hl fun k => ?_))
    rw [hmem k, List.take_of_length_le (Nat.le_of_eq hn.symm)]
  | succ m ih =>
    intro i s hm hi hst ⟨D, l, hS, F, hl, hmem⟩ hR
    refine codeAny_builtin PyProof.Rows.F.entry_set_update_loop ?_
    rw [Around.under_plainId PyProof.Rows.F.plain_set_update_loop _]
    refine wpAny_bind (W.item i s _ _ (by omega) hst fun v s1 hP hst1 mv => ?_)
    obtain ⟨y, u, hp, rfl⟩ := hval i v hP
    have hS1 := mv.heap S _ hSw hS
    have hnx : ∀ k, k ∈ xs.take (i + 1) ↔ k ∈ l ∨ k = y := fun k => by
      rw [List.take_add_one, hp, List.mem_append, ← hmem k]
      simp
    refine wpAny_bind (wpAny_holding ?_)
    unfold setAdd
    refine wpAny_holding (wpAny_bind ((strKind P w).pyHash (k := y) (Froz.is_str _ _) ?_))
    by_cases hk : y ∈ l
    · refine add_old (s := { s1 with toks := s1.toks + 1 }) hS1 F.ok hk (by omega) ?_
      refine wpAny_pure ⟨plainId_quiet PyProof.Rows.F.plain_set_update_loop _, ih (i + 1) _ (by omega) (by omega) (W.frame _ s1 _ _ hst1 (Nat.le_succ _) fun b _ o e => e) ⟨D, l, hS1, F, by omega, fun k => ?_⟩ fun s2 D2 l2 mv2 hS2 F2 n2 h2 => ?_⟩
      · rw [hnx k]
        exact ⟨.inl, fun z => z.elim id fun z => z ▸ hk⟩
      · exact hR s2 D2 l2 (Moved.trans W.gtrans ((mv.mono more).then_heap (Nat.le_succ _) fun b o _ e => e) mv2) hS2 F2 n2 h2
    · refine Froz.add_x (s := { s1 with toks := s1.toks + 1 }) hS1 F.ok hk (by omega) ?_
      have hS2 : (s1.heap.update S (fun _ => sObj "set" (addTx (hashStr w y) (.str y u) D))).get? S = some (sObj "set" (addTx (hashStr w y) (.str y u) D)) := Froz.get_upd _ hS1 rfl
      have other : ∀ b o, b ≠ S → s1.heap.get? b = some o → (s1.heap.update S (fun _ => sObj "set" (addTx (hashStr w y) (.str y u) D))).get? b = some o := fun b o n e => (Heap.get?_update_other _ _ (Ne.symm n)).trans e
      refine wpAny_pure ⟨plainId_quiet PyProof.Rows.F.plain_set_update_loop _, ih (i + 1) _ (by omega) (by omega) (W.frame _ s1 _ _ hst1 (Nat.le_succ _) fun b hb' o e => other b o (fun z => hSf (z ▸ hb')) e) ⟨_, y :: l, hS2, F.add u hk, (by simp only [List.length_cons]; omega), fun k => ?_⟩ fun s2 D2 l2 mv2 hS3 F2 n2 h2 => ?_⟩
      · rw [hnx k, List.mem_cons]
        exact Or.comm
      · exact hR s2 D2 l2 (Moved.trans W.gtrans ((mv.mono more).then_heap (Nat.le_succ _) fun b o nb e => other b o (fun z => nb (z ▸ List.mem_cons_self ..)) e) mv2) hS3 F2 n2 h2
/-- set(list of texts) -/
theorem call_set_list {l : Addr} {items : Array Value} {xs : List Str} {Q : Value → Shared → Prop} (hh : A.handled = none) (hl : s.heap.IsList l items) (hx : StrsAre items.toList xs) (hb : xs.length + 1 < scanBound)
    (h : ∀ (s' : Shared) D m, (∀ b o, s.heap.get? b = some o → s'.heap.get? b = some o) → s'.gens = s.gens → s'.os = s.os → s'.heap.get? s.heap.objs.size = some (sObj "set" D) → Tx P w D m → m.length ≤ xs.length → (∀ k, k ∈ m ↔ k ∈ xs) → Q (.ref s.heap.objs.size) s') :
    wpAny (model P w) A (call (.type "set") [.ref l]) Q E s := by
  refine set_by_init fun R hR => ?_
  have hlen : items.size = xs.length := by
    have q := StrsAre.length hx
    rw [Array.length_toList] at q
    exact q
  have hS : (s.heap.push (sObj "set" (emptyD w))).get? s.heap.objs.size = some (sObj "set" (emptyD w)) := Heap.get?_push_size _ rfl
  have hold : ∀ b o, s.heap.get? b = some o → (s.heap.push (sObj "set" (emptyD w))).get? b = some o := fun b o e => Heap.get?_push_of_some _ e
  have hl1 : (s.heap.push (sObj "set" (emptyD w))).IsList l items := hl.push _
  have hls : l ≠ s.heap.objs.size := by
    obtain ⟨_, e, _⟩ := hl
    exact Nat.ne_of_lt (Heap.lt_size e)
  have t1 := F.sub_list_set
  have t2 := F.sub_list_frozenset
  have t3 : (Value.type "list" == Value.type "dict") = false := by decide
  have hty : Shared.TypeIs { s with heap := s.heap.push (sObj "set" (emptyD w)) } (.ref l) "list" := hl1.typeIs (s := { s with heap := s.heap.push (sObj "set" (emptyD w)) })
  generalize s.heap.push (sObj "set" (emptyD w)) = h1 at hS hold hl1 hty ⊢
  unfold Builtin.«set.__init__» noKeywords Builtin.Frozenset.updateFrom
  generalize hPI : pyIter = PI
  wp_walk
  subst hPI
  refine iter_any hl1 fun s2 e2 st hne => wpAny_bind (wpAny_runValue ?_)
  subst e2
  have hx1 : ∀ b u', h1.get? b = some u' → b ≠ h1.objs.size := fun b u' e => Nat.ne_of_lt (Heap.lt_size e)
  have hSf : s.heap.objs.size ∉ [h1.objs.size, l] := fun z => by
    rcases List.mem_cons.mp z with z | z
    · exact hx1 _ _ hS z
    · exact hls (List.mem_singleton.mp z).symm
  have hval : ∀ (i : Nat) (v : Value), items[i]? = some v → ∃ k u, xs[i]? = some k ∧ v = .str k u := fun i v hv => by
    have hi : i < xs.length := by rw [← hlen]; exact (Array.getElem?_eq_some_iff.mp hv).1
    obtain ⟨t, e⟩ := SS.strs_at hx i v (by rw [Array.getElem?_toList]; exact hv)
    refine ⟨xs[i], t, List.getElem?_eq_getElem hi, ?_⟩
    rw [e, List.getD_eq_getElem?_getD, List.getElem?_eq_getElem hi] <;> rfl
  refine loop_txs ((Walks.list (by simp [hh]) _ l hne items).toS) s.heap.objs.size hSf hlen (by rw [hlen]; exact hb) hval _ 0 _ rfl (Nat.zero_le _) st ⟨_, [], Heap.get?_push_of_some _ hS, tx_empty, Nat.le_refl _, fun k => by simp⟩ fun s2 D m mv hS2 F hm1 hm => ?_
  refine wpAny_pure (wpAny_pure (hR _ (h s2 D m (fun b o' e => ?_) mv.gens mv.os hS2 F (by rw [← hlen]; exact hm1) hm)))
  refine mv.heap b o' (fun z => ?_) (Heap.get?_push_of_some _ (hold b o' e))
  rcases List.mem_cons.mp z with z | z
  · rw [z] at e
    exact Nat.lt_irrefl _ (Heap.lt_size e)
  · exact hx1 _ _ (hold b o' e) (List.mem_singleton.mp z)
end
section
variable {X : Cx}
/-- set(xs), texts, then sorted -/
theorem cr_setListAt {P : Program} {w : World} (hc : X.calm = true) (eP : X.prog = P) (ew : X.w = w) : CallR X (.type "set") (fun xs H Q => ∃ (a : Addr) (ks : List Wd), xs = [.ref a] ∧ SqL X.K H a ((ks.map mkS).map .str) ∧ ks.length ≤ 4000 ∧
    ∀ p l (ms : List Wd), H p = none → l.Perm (ms.map mkS) → ms.Nodup → ms.length ≤ 4000 → (∀ k, k ∈ ms ↔ k ∈ ks) → Q (.ref p) (upd H p (SetTxO P w p l))) := by
  subst eP
  subst ew
  intro pins s σ H vs us Q I r h
  obtain ⟨a, ks, rfl, hs, hl, q⟩ := h
  obtain ⟨its, rv, hl0, hz⟩ := I.list hs
  rw [Vals.ref1 r]
  have hx := strs_vals rv
  refine call_set_list (I.ok.hd hc) hl0.isList (by simpa using hx) (by rw [List.length_map]; exact Nat.lt_of_le_of_lt (Nat.succ_le_succ hl) (by decide)) fun s' D l k g o hS F hn hm => ?_
  have em : ((l.map (fun y : Str => y.cps.toList)).map mkS) = l := by
    rw [List.map_map, show (mkS ∘ fun y : Str => y.cps.toList) = id from funext fun y => mkS_of y, List.map_id]
  refine laid_new I k g o (Nat.le_refl _) (setTxO_new ⟨D, hS, F⟩) fun hn' => q _ l (l.map fun y : Str => y.cps.toList) hn' (by rw [em]) ?_ ?_ fun x => ?_
  · refine List.Pairwise.map _ (fun a b n e => n ?_) F.nd
    rw [← mkS_of a, ← mkS_of b, e]
  · rw [List.length_map]
    rw [List.length_map] at hn
    omega
  · constructor
    · intro h
      obtain ⟨y, hy, rfl⟩ := List.mem_map.mp h
      obtain ⟨z, hz, e⟩ := List.mem_map.mp ((hm y).mp hy)
      rw [← e, mkS_cps]
      exact hz
    · intro h
      have h2 := (hm (mkS x)).mpr (List.mem_map_of_mem h)
      have h3 := List.mem_map_of_mem (f := fun y : Str => y.cps.toList) h2
      rw [mkS_cps] at h3
      exact h3
end
end Vs

set_option Elab.async false
set_option linter.all false
set_option maxRecDepth 100000
set_option maxHeartbeats 4000000
namespace Vd
open PySem PySem.Spec PyProof.Rows L2 L2.Vx Vm
/-! ### values as data: taken apart, asked for their kind -/
theorem dt_same {H H' : Hp} {S : Addr → Prop} {v : V} {D : PyData} (h : Dt H S v D) (s : Same H H') : Dt H' S v D := h.mono (fun a o _ e => s a o e) fun _ _ x _ => x
theorem dtA_same {H H' : Hp} {S : Addr → Prop} {vs : List V} {ds : List PyData} (h : DtAll H S vs ds) (s : Same H H') : DtAll H' S vs ds := h.mono (fun a o _ e => s a o e) fun _ _ x _ => x
theorem dt_any {H : Hp} {S : Addr → Prop} {v : V} {D : PyData} (h : Dt H S v D) : Dt H (fun _ => True) v D := h.mono (fun _ _ _ e => e) fun _ _ _ _ => trivial
theorem dt_tup {H : Hp} {S : Addr → Prop} {v : V} {ds : List PyData} (h : Dt H S v (.tuple ds)) : ∃ a xs, v = .ref a ∧ H a = some (.tup xs) ∧ S a ∧ DtAll H S xs ds := by
  cases h with
  | flat e => cases v <;> exact absurd e (by intro z; cases z)
  | tup e s r => exact ⟨_, _, rfl, e, s, r⟩
theorem dt_str {H : Hp} {S : Addr → Prop} {v : V} {x : Str} (h : Dt H S v (.str x)) : v = .str x := by
  cases h with
  | flat e =>
    cases v with
    | str y => cases (show PyData.str x = .str y from e); rfl
    | _ => exact absurd e (by intro z; cases z)
theorem dt_int {H : Hp} {S : Addr → Prop} {v : V} {n : Int} (h : Dt H S v (.int n)) : v = .int n := by
  cases h with
  | flat e =>
    cases v with
    | int y => cases (show PyData.int n = .int y from e); rfl
    | _ => exact absurd e (by intro z; cases z)
theorem dtA_len {H : Hp} {S : Addr → Prop} : ∀ {vs : List V} {ds : List PyData}, DtAll H S vs ds → vs.length = ds.length
  | _, _, .nil => rfl
  | _, _, .cons _ r => congrArg (· + 1) (dtA_len r)
theorem dtA_at {H : Hp} {S : Addr → Prop} : ∀ {vs : List V} {ds : List PyData}, DtAll H S vs ds → ∀ {i : Nat} {v : V}, vs[i]? = some v → ∃ d, ds[i]? = some d ∧ Dt H S v d
  | _, _, .cons h _, 0, _, e => ⟨_, rfl, (Option.some.inj e) ▸ h⟩
  | _, _, .cons _ r, _ + 1, _, e => dtA_at r (i := _) e
theorem dtA_one {H : Hp} {S : Addr → Prop} {vs : List V} {d : PyData} {ds : List PyData} (h : DtAll H S vs (d :: ds)) : ∃ v r, vs = v :: r ∧ Dt H S v d ∧ DtAll H S r ds := by
  cases h with
  | cons a b => exact ⟨_, _, rfl, a, b⟩
theorem dtA_nil {H : Hp} {S : Addr → Prop} {vs : List V} (h : DtAll H S vs []) : vs = [] := by
  cases h
  rfl
/-- all of them texts -/
def strD : PyData → Bool
  | .str _ => true
  | _ => false
def wdOf : PyData → Wd
  | .str x => x.cps.toList
  | _ => []
theorem dtA_strs {H : Hp} {S : Addr → Prop} : ∀ {vs : List V} {ds : List PyData}, DtAll H S vs ds → ds.all strD = true → vs = ((ds.map wdOf).map mkS).map .str
  | _, _, .nil, _ => rfl
  | _, _, .cons (d := d) h r, e => by
    rw [List.all_cons, Bool.and_eq_true] at e
    rw [dtA_strs r e.2]
    cases d with
    | str x =>
      rw [dt_str h]
      show V.str x :: _ = V.str (mkS x.cps.toList) :: _
      rw [mkS_of]
    | _ => exact absurd e.1 (by intro z; cases z)
def tyD : PyData → String
  | .none => "NoneType"
  | .bool _ => "bool"
  | .int _ => "int"
  | .str _ => "str"
  | .list _ => "list"
  | .tuple _ => "tuple"
  | .dict _ => "dict"
theorem dt_ty {K : PySem.W.Frag} {H : Hp} {S : Addr → Prop} {v : V} {D : PyData} (h : Dt H S v D) : TyX K H v (.type (tyD D)) := by
  cases h with
  | flat e =>
    cases v with
    | non => cases (show D = .none from e); exact .base .non
    | bl b => cases (show D = .bool b from e); exact .base (.bl b)
    | int i => cases (show D = .int i from e); exact .base (.int i)
    | str x => cases (show D = .str x from e); exact .base (.str x)
    | byt b => exact (show False from e).elim
    | flt b => exact (show False from e).elim
    | ref b => exact (show False from e).elim
    | ty b => exact (show False from e).elim
  | lst e _ _ => exact .base (.lst e)
  | tup e _ _ => exact .base (.tup e)
  | dct e _ _ => exact .base (.dK e)
/-- isinstance of such a value, one of four types -/
def isD (n : String) (D : PyData) : Bool := (n == "int" && tyD D == "bool") || tyD D == n
theorem kitTab : ∀ a ∈ ["NoneType", "bool", "int", "str", "list", "tuple", "dict"], ∀ n ∈ ["int", "bool", "str", "tuple"], kitB a n = some ((n == "int" && a == "bool") || a == n) := by decide +kernel
theorem tyD_mem (D : PyData) : tyD D ∈ ["NoneType", "bool", "int", "str", "list", "tuple", "dict"] := by
  cases D <;> simp [tyD]
theorem kit_D {K : PySem.W.Frag} (D : PyData) {n : String} (hn : n = "int" ∨ n = "bool" ∨ n = "str" ∨ n = "tuple") : PySem.W.kitOne K (.type (tyD D)) (.type n) = some (isD n D) :=
  kit_ty (kitTab _ (tyD_mem D) n (by rcases hn with rfl | rfl | rfl | rfl <;> simp))
theorem isD_str (D : PyData) : isD "str" D = strD D := by
  cases D with
  | str x => exact (by decide +kernel : (("str" == "int" && "str" == "bool") || "str" == "str") = true)
  | none => exact (by decide +kernel : (("str" == "int" && "NoneType" == "bool") || "NoneType" == "str") = false)
  | bool b => exact (by decide +kernel : (("str" == "int" && "bool" == "bool") || "bool" == "str") = false)
  | int b => exact (by decide +kernel : (("str" == "int" && "int" == "bool") || "int" == "str") = false)
  | list b => exact (by decide +kernel : (("str" == "int" && "list" == "bool") || "list" == "str") = false)
  | tuple b => exact (by decide +kernel : (("str" == "int" && "tuple" == "bool") || "tuple" == "str") = false)
  | dict b => exact (by decide +kernel : (("str" == "int" && "dict" == "bool") || "dict" == "str") = false)
theorem isD_tup (D : PyData) : isD "tuple" D = true ↔ ∃ ds, D = .tuple ds := by
  cases D with
  | tuple ds => exact ⟨fun _ => ⟨ds, rfl⟩, fun _ => by show (("tuple" == "int" && "tuple" == "bool") || "tuple" == "tuple") = true; decide +kernel⟩
  | none => exact ⟨fun z => absurd z (by show ¬ (("tuple" == "int" && "NoneType" == "bool") || "NoneType" == "tuple") = true; decide +kernel), fun ⟨_, e⟩ => by cases e⟩
  | bool b => exact ⟨fun z => absurd z (by show ¬ (("tuple" == "int" && "bool" == "bool") || "bool" == "tuple") = true; decide +kernel), fun ⟨_, e⟩ => by cases e⟩
  | int b => exact ⟨fun z => absurd z (by show ¬ (("tuple" == "int" && "int" == "bool") || "int" == "tuple") = true; decide +kernel), fun ⟨_, e⟩ => by cases e⟩
  | str b => exact ⟨fun z => absurd z (by show ¬ (("tuple" == "int" && "str" == "bool") || "str" == "tuple") = true; decide +kernel), fun ⟨_, e⟩ => by cases e⟩
  | list b => exact ⟨fun z => absurd z (by show ¬ (("tuple" == "int" && "list" == "bool") || "list" == "tuple") = true; decide +kernel), fun ⟨_, e⟩ => by cases e⟩
  | dict b => exact ⟨fun z => absurd z (by show ¬ (("tuple" == "int" && "dict" == "bool") || "dict" == "tuple") = true; decide +kernel), fun ⟨_, e⟩ => by cases e⟩
def isInt : PyData → Bool
  | .int _ => true
  | _ => false
/-! ### judges, as data -/
def textD (sg : Wd) : PyData → Bool
  | .str x => x.cps.toList.all fun c => decide (c ∈ sg)
  | _ => false
def wordDB (sg : Wd) (n : Int) (d : PyData) : Bool := textD sg d && decide (((wdOf d).length : Int) = n)
/-- each less than the next -/
def riseB {α : Type} (lt : α → α → Bool) (xs : List α) : Bool := (xs.zip (xs.drop 1)).all fun p => lt p.1 p.2
def ltW (x y : Wd) : Bool := decide (x < y)
def wordsB (sg : Wd) (n : Int) : PyData → Bool
  | .tuple ds => ds.all (wordDB sg n) && riseB ltW (ds.map wdOf)
  | _ => false
def ltP (x y : Wd) : Bool := decide (x.length < y.length) || (decide (x.length = y.length) && decide (x < y))
def shorterB (sg : Wd) (k : Int) : PyData → Bool
  | .tuple ds => ds.all (textD sg) && (ds.all (fun d => decide (((wdOf d).length : Int) < k)) && riseB ltP (ds.map wdOf))
  | _ => false
def judgeB (sg : Wd) : PyData → Bool
  | .tuple [.int k, s, f, l, p] => decide (1 ≤ k) && (shorterB sg k s && (wordsB sg (k - 1) f && (wordsB sg (k - 1) l && wordsB sg k p)))
  | _ => false
theorem text_str {sg : Wd} {d : PyData} (h : textD sg d = true) : strD d = true := by
  cases d with
  | str x => rfl
  | _ => exact absurd h (by intro z; cases z)
mutual
def wideD (n : Nat) : PyData → Prop
  | .tuple ds => ds.length ≤ n ∧ wideDs n ds
  | .list ds => ds.length ≤ n ∧ wideDs n ds
  | .str x => x.length ≤ n
  | _ => True
def wideDs (n : Nat) : List PyData → Prop
  | [] => True
  | d :: r => wideD n d ∧ wideDs n r
end
theorem wide_mem {n : Nat} : ∀ {ds : List PyData}, wideDs n ds → ∀ d ∈ ds, wideD n d
  | d :: r, h, e, he => by
    rcases List.mem_cons.mp he with rfl | he
    · exact h.1
    · exact wide_mem h.2 e he
end Vd

set_option Elab.async false
set_option linter.all false
set_option maxRecDepth 100000
set_option maxHeartbeats 4000000
namespace L2
open PySem PySem.Spec PyProof.Rows
/-! ### o.f as one of several targets -/
section
variable {X : Cx} {o : Expr} {f : Str} {pos : Pos} {to : TE}
def gFld (K : PySem.W.Frag) (to : TE) (f : Str) : TG := fun v σ H Q => to σ H fun x H1 => ∃ a C dx fs, x = .ref a ∧ H1 a = some (.ins C dx fs) ∧ Cls K C ∧ NoAttr K C f ∧ fs.length < 1000 ∧ Q σ (upd H1 a (.ins C dx (putF f v fs)))
theorem pg_fld (ho : PE X o to)
    (ha : ∀ v, assign (.Attribute o f pos) X.env v = (do
      let ov ← holding [v] (eval o X.env)
      standAt pos.atName
      holding [v, ov] (setAttr ov f v)
      release [v, ov] []) := by intro _; rfl) : PG X (.Attribute o f pos) (gFld X.K to f) := by
  refine ⟨fun pins s σ H v u Q I r h => ?_⟩
  rw [ha]
  refine wpAny_bind (wpAny_holding (thn (ho.run pins s σ H _ I h) fun ov s1 ⟨x, H1, I1, r1, a, C, dx, fs, ex, ea, c, n, l, q1⟩ => ?_))
  subst ex
  obtain rfl : ov = Value.ref a := r1
  refine wpAny_bind (wpAny_standAt (wpAny_bind (wpAny_holding (setattr_ok I1 ea c n l r fun s3 I3 => ?_))))
  exact wpAny_release ⟨σ, _, I3, q1⟩
end
end L2

set_option Elab.async false
set_option linter.all false
set_option maxRecDepth 100000
set_option maxHeartbeats 1000000
namespace Vf
open PySem PySem.Spec PyProof.Rows L2 L2.Vx Vs Vm Vd
abbrev clsL : Stmt := top 45
abbrev sLInit : Stmt := inClass clsL 0
/-! ### languages of machines that are some: made, with the parts of their least machines -/
theorem if_fl {A B : Prop} {c : Bool} (e : c = false) (h : B) : if c = true then A else B := by
  rw [e]
  exact h
def NatsAt (H : Hp) (v : V) (ns : List Nat) : Prop := ∃ a, v = .ref a ∧ H a = some (.tup (ns.map nI))
def MRowsAt (H : Hp) (v : V) (rows : List (List Nat)) : Prop := ∃ (a : Addr) (bs : List V), v = .ref a ∧ H a = some (.tup bs) ∧ bs.length = rows.length ∧ ∀ (i : Nat) (b : V) (r : List Nat), bs[i]? = some b → rows[i]? = some r → NatsAt H b r
theorem NatsAt.same {H H' : Hp} {v : V} {ns : List Nat} (h : NatsAt H v ns) (s : Same H H') : NatsAt H' v ns := h.imp fun a z => ⟨z.1, s _ _ z.2⟩
theorem MRowsAt.same {H H' : Hp} {v : V} {rows : List (List Nat)} (h : MRowsAt H v rows) (s : Same H H') : MRowsAt H' v rows := by
  obtain ⟨a, bs, h1, h2, h3, h4⟩ := h
  exact ⟨a, bs, h1, s _ _ h2, h3, fun i b r e1 e2 => (h4 i b r e1 e2).same s⟩
theorem NatsAt.but {H H' : Hp} {p C dx : Addr} {fs : List (Str × V)} {v : V} {ns : List Nat} (h : NatsAt H v ns) (hp : H p = some (.ins C dx fs)) (u : ∀ b o, b ≠ p → H b = some o → H' b = some o) : NatsAt H' v ns := by
  obtain ⟨a, h1, h2⟩ := h
  exact ⟨a, h1, u _ _ (ne_of h2 hp (by intro z; cases z)) h2⟩
theorem MRowsAt.but {H H' : Hp} {p C dx : Addr} {fs : List (Str × V)} {v : V} {rows : List (List Nat)} (h : MRowsAt H v rows) (hp : H p = some (.ins C dx fs)) (u : ∀ b o, b ≠ p → H b = some o → H' b = some o) : MRowsAt H' v rows := by
  obtain ⟨a, bs, h1, h2, h3, h4⟩ := h
  exact ⟨a, bs, h1, u _ _ (ne_of h2 hp (by intro z; cases z)) h2, h3, fun i b r e1 e2 => (h4 i b r e1 e2).but hp u⟩
theorem NatsAt.T {K : PySem.W.Frag} {H : Hp} {v : V} {ns : List Nat} (h : NatsAt H v ns) : TupN K H v ns := h.imp fun a z => ⟨z.1, SqT.of z.2⟩
theorem MRowsAt.R {K : PySem.W.Frag} {H : Hp} {v : V} {rows : List (List Nat)} (h : MRowsAt H v rows) : RowsAt K H v rows := by
  obtain ⟨a, bs, h1, h2, h3, h4⟩ := h
  exact ⟨a, bs, h1, SqT.of h2, h3, fun i b r e1 e2 => (h4 i b r e1 e2).T⟩
theorem NatsAt.dt {H : Hp} {v : V} {ns : List Nat} (h : NatsAt H v ns) : Dt H (fun _ => True) v (natsT ns) := by
  obtain ⟨a, rfl, e⟩ := h
  exact .tup e trivial (dtA_nats ns)
theorem mrows_all {H : Hp} : ∀ (bs : List V) (rows : List (List Nat)), bs.length = rows.length → (∀ (i : Nat) (b : V) (r : List Nat), bs[i]? = some b → rows[i]? = some r → NatsAt H b r) → DtAll H (fun _ => True) bs (rows.map natsT)
  | [], [], _, _ => .nil
  | [], _ :: _, h, _ => nomatch h
  | _ :: _, [], h, _ => nomatch h
  | b :: bs, r :: rows, h, e => .cons (e 0 b r rfl rfl).dt (mrows_all bs rows (Nat.succ.inj h) fun i b' r' h1 h2 => e (i + 1) b' r' (by simpa using h1) (by simpa using h2))
theorem MRowsAt.dt {H : Hp} {v : V} {rows : List (List Nat)} (h : MRowsAt H v rows) : Dt H (fun _ => True) v (rowsT rows) := by
  obtain ⟨a, bs, rfl, e, h3, h4⟩ := h
  exact .tup e trivial (mrows_all bs rows h3 h4)
theorem nats_vals {H : Hp} {S : Addr → Prop} : ∀ {xs : List V} {ns : List Nat}, DtAll H S xs (ns.map fun n => .int (n : Nat)) → xs = ns.map nI
  | [], [], .nil => rfl
  | _ :: _, n :: ns, .cons h r => by
    rw [Vd.dt_int h, nats_vals r]
    rfl
theorem nats_of {H : Hp} {S : Addr → Prop} {v : V} {ns : List Nat} (h : Dt H S v (natsT ns)) : NatsAt H v ns := by
  obtain ⟨a, xs, rfl, e, _, r⟩ := Vd.dt_tup h
  exact ⟨a, rfl, by rw [e, nats_vals r]⟩
theorem mrows_of {H : Hp} {S : Addr → Prop} {v : V} {rows : List (List Nat)} (h : Dt H S v (rowsT rows)) : MRowsAt H v rows := by
  obtain ⟨a, xs, rfl, e, _, r⟩ := Vd.dt_tup h
  refine ⟨a, xs, rfl, e, by rw [Vd.dtA_len r, List.length_map], fun i b ro h1 h2 => ?_⟩
  obtain ⟨d, hd, dd⟩ := Vd.dtA_at r h1
  rw [List.getElem?_map, h2] at hd
  cases hd
  exact nats_of dd
theorem state_is {m n : Nat} (h : n < m) : isStateD m (.int (n : Nat)) = true := by
  show (decide (0 ≤ (n : Int)) && decide ((n : Int) < (m : Int))) = true
  rw [decide_eq_true (by omega), decide_eq_true (by omega)]
  rfl
theorem rows_are {rows : List (List Nat)} {k : Nat} (sq : Square rows k) : isRowsD k (rowsT rows) = true := by
  show (decide (0 < (rows.map natsT).length) && (rows.map natsT).all (isRowD k (rows.map natsT).length)) = true
  rw [List.length_map, decide_eq_true sq.some, Bool.true_and, List.all_eq_true]
  intro d hd
  obtain ⟨r, hr, rfl⟩ := List.mem_map.mp hd
  show (decide ((r.map fun n => PyData.int (n : Nat)).length = k) && (r.map fun n => PyData.int (n : Nat)).all (isStateD rows.length)) = true
  rw [List.length_map, decide_eq_true (sq.wide r hr), Bool.true_and, List.all_eq_true]
  intro x hx
  obtain ⟨n, hn, rfl⟩ := List.mem_map.mp hx
  exact state_is (sq.inn r hr n hn)
theorem ends_are {ends : List Nat} {m : Nat} (h : ∀ x ∈ ends, x < m) (up : ascN ends = true) : isEndsD m (natsT ends) = true := by
  show ((ends.map fun n => PyData.int (n : Nat)).all (isStateD m) && ascN ((ends.map fun n => PyData.int (n : Nat)).map natD)) = true
  have e : (ends.map fun n => PyData.int (n : Nat)).map natD = ends := by
    rw [List.map_map]
    exact (List.map_congr_left fun n _ => rfl).trans (List.map_id ends)
  rw [e, up, Bool.and_true, List.all_eq_true]
  intro x hx
  obtain ⟨n, hn, rfl⟩ := List.mem_map.mp hx
  exact state_is (h n hn)
/-- a language over a at p, with these rows and ends -/
def LangL (C : Addr) (H : Hp) (p : Addr) (a : Str) (rows : List (List Nat)) (ends : List Nat) : Prop := ∃ (dx : Addr) (vr ve : V), H p = some (.ins C dx [("letters", .str a), ("rows", vr), ("ends", ve)]) ∧ MRowsAt H vr rows ∧ NatsAt H ve ends
theorem LangL.same {C : Addr} {H H' : Hp} {p : Addr} {a : Str} {rows : List (List Nat)} {ends : List Nat} (h : LangL C H p a rows ends) (s : Same H H') : LangL C H' p a rows ends := by
  obtain ⟨dx, vr, ve, h1, h2, h3⟩ := h
  exact ⟨dx, vr, ve, s _ _ h1, h2.same s, h3.same s⟩
def spLMake (C : Addr) : Sp := fun vs H Q _ => ∃ (p dx : Addr) (a : Str) (v1 v2 : V) (rows : List (List Nat)) (ends : List Nat), vs = [.ref p, .str a, v1, v2] ∧ H p = some (.ins C dx []) ∧ letB a = true ∧ (∀ c ∈ cp a, c < 128) ∧ MRowsAt H v1 rows ∧ NatsAt H v2 ends ∧
  Square rows a.length ∧ (∀ x ∈ ends, x < rows.length) ∧ ends.length ≤ 1000 ∧ ascN ends = true ∧
  ∀ (rows' : List (List Nat)) (ends' : List Nat) H', LangL C H' p a rows' ends' → Least rows' a.length ends' → (∀ w : List Nat, (∀ i ∈ w, i < a.length) → (led rows' w 0 ∈ ends' ↔ led rows w 0 ∈ ends)) → (∀ b o, b ≠ p → H b = some o → H' b = some o) → Q .non H'
structure TxtLg (K : PySem.W.Frag) (mg : Str → Option Value) (C : Addr) : Prop where
  cl : Cls K C
  nL : NoAttr K C "letters"
  nR : NoAttr K C "rows"
  nE : NoAttr K C "ends"
  len : mg "len" = none
section
variable {P : Program} {w : World} {K : PySem.W.Frag} {mg : Str → Option Value} {base : Heap} {C : Addr}
theorem scLInit : FnScope ["self", "letters", "rows", "ends"] ["self", "letters", "rows", "ends"] (defScope sLInit) := ⟨rfl, rfl, rfl, by decide +kernel, rfl, by decide +kernel, by decide +kernel⟩
theorem ok_lmake {f fL fR fE fM : Addr} {fd fdL fdR fdE fdM : FuncData} (F : Fun K "__init__" "Language.__init__" sLInit f fd) (T : TxtLg K mg C)
    (GL : FnOk P w K mg base CX0 2 fL fdL ["thing"] (spLet K letB)) (bL : Binds K fdL ["thing"] []) (kL : PySem.W.keepIn K (.ref fL) = true) (mL : mg "is_letters" = some (.ref fL))
    (GR : FnOk P w K mg base CX0 4 fR fdR ["thing", "width"] spRows) (bR : Binds K fdR ["thing", "width"] []) (kR : PySem.W.keepIn K (.ref fR) = true) (mR : mg "is_rows" = some (.ref fR))
    (GE : FnOk P w K mg base CX0 3 fE fdE ["thing", "many"] spEnds) (bE : Binds K fdE ["thing", "many"] []) (kE : PySem.W.keepIn K (.ref fE) = true) (mE : mg "is_ends" = some (.ref fE))
    (GM : FnOk P w K mg base CX0 3 fM fdM ["rows", "ends"] (spLeastL K)) (bM : Binds K fdM ["rows", "ends"] []) (kM : PySem.W.keepIn K (.ref fM) = true) (mM : mg "least_machine" = some (.ref fM)) :
    FnOk P w K mg base CX0 5 f fd ["self", "letters", "rows", "ends"] (spLMake C) := by
  refine F.ok scLInit (fun vs H Q E h => ?_) (fun cdv A outer s H vs Q E hr h => ?_)
  · obtain ⟨p, dx, a, v1, v2, rows, ends, rfl, _⟩ := h
    rfl
  obtain ⟨p, dx, a, v1, v2, rows, ends, rfl, hp, hlet, h8, hR, hE, hSq, hEl, hEn, hUp, q⟩ := h
  have hr2 : Room 2 _ := hr.mono (by decide)
  have hr3 : Room 3 _ := hr.mono (by decide)
  have hr4 : Room 4 _ := hr.mono (by decide)
  refine ⟨_, (pss_cons (ps_if (pt_not (pt_val (pe_call GL hr2 rfl mL kL bL .nil pass0 (pa_cons (pv 1) pa_nil)))) (pss_one ps_never) pss_nil)
    (pss_cons (ps_if (pt_not (pt_val (pe_call GR hr4 rfl mR kR bR .nil pass0 (pa_cons (pv 2) (pa_cons (pe_callB call_len_str (by rfl) T.len PySem.boot_len (pa_cons (pv 1) pa_nil)) pa_nil))))) (pss_one ps_never) pss_nil)
    (pss_cons (ps_if (pt_not (pt_val (pe_call GE hr3 rfl mE kE bE .nil pass0 (pa_cons (pv 3) (pa_cons (pe_callB call_len_seq (by rfl) T.len PySem.boot_len (pa_cons (pv 2) pa_nil)) pa_nil))))) (pss_one ps_never) pss_nil)
    (pss_cons (ps_fld (pv 0) (pv 1) rfl)
    (pss_one (ps_asg (pe_call GM hr3 rfl mM kM bM .nil pass0 (pa_cons (pv 2) (pa_cons (pv 3) pa_nil))) (pg_tup rfl (pgs_cons (pg_fld (pv 0)) (pgs_cons (pg_fld (pv 0)) pgs_nil))))))))), ?_⟩
  have ha4 : a.length ≤ 4 := by
    have z := hlet
    unfold letB at z
    rw [Bool.and_eq_true, Bool.and_eq_true, decide_eq_true_iff, decide_eq_true_iff] at z
    exact z.1.2
  have ha : a.length ≤ 100000 := by omega
  have hal : (cp a).length = a.length := by rw [Array.length_toList]; rfl
  refine ⟨_, rfl, _, some a, rfl, ⟨rfl, ha, h8⟩, fun H1 s1 => ⟨_, rfl, ?_⟩⟩
  show if (!letB a) = true then _ else _
  rw [hlet]
  refine if_fl rfl ?_
  refine ⟨_, rfl, _, rfl, _, rfl, Nat.le_trans ha (by decide), v1, rowsT rows, _, a.length, rfl, ha, fun ds e => ?_, (hR.same s1).dt, fun H2 s2 => ⟨_, rfl, ?_⟩⟩
  · cases e
    rw [List.length_map]
    have := hSq.few
    omega
  rw [rows_are hSq]
  refine if_fl rfl ?_
  have s12 := s1.trans s2
  have hR2 := hR.same s12
  obtain ⟨ra, rbs, erv, hra, hrl, hrr⟩ := id hR2
  subst erv
  refine ⟨_, rfl, _, rfl, ra, rbs, rfl, .inr (SqT.of hra), v2, natsT ends, _, rows.length, by rw [hrl]; rfl, fun ds e => ?_, (hE.same s12).dt, fun H3 s3 => ⟨_, rfl, ?_⟩⟩
  · cases e
    rw [List.length_map]
    omega
  rw [ends_are hEl hUp]
  refine if_fl rfl ?_
  have s13 := s12.trans s3
  have hE3' := hE.same s13
  have hp3 := s13 _ _ hp
  refine ⟨_, rfl, _, rfl, p, C, dx, _, rfl, hp3, T.cl, T.nL, (by show 0 < 1000; decide), ?_⟩
  have u4 : ∀ b o, b ≠ p → H3 b = some o → (upd H3 p (.ins C dx (putF "letters" (.str a) []))) b = some o := fun b o n e => by rw [upd_ne n]; exact e
  have hR3 := (hR2.same s3).but hp3 u4
  have hE3 := hE3'.but hp3 u4
  have hp4 : (upd H3 p (.ins C dx (putF "letters" (.str a) []))) p = some (.ins C dx [("letters", .str a)]) := upd_same
  generalize upd H3 p (.ins C dx (putF "letters" (.str a) [])) = H4 at u4 hR3 hE3 hp4 ⊢
  refine ⟨_, rfl, _, rfl, _, v2, rows, ends, a.length, rfl, hR3.R, hE3.T, hSq, hEl, fun t ta tb rows' ends' H5 s5 ht et L1 L2 dr de => ?_⟩
  have hp5 := s5 _ _ hp4
  refine ⟨t, _, rfl, SqT.of et, rfl, _, _, rfl, _, rfl, p, C, dx, _, rfl, hp5, T.cl, T.nR, (by show 1 < 1000; decide), _, _, rfl, _, rfl, p, C, dx, _, rfl, upd_same, T.cl, T.nE, (by show 2 < 1000; decide), rfl, ?_⟩
  have u6 : ∀ b o, b ≠ p → H5 b = some o → (upd (upd H5 p (.ins C dx (putF "rows" ta [("letters", .str a)]))) p (.ins C dx (putF "ends" tb (putF "rows" ta [("letters", .str a)])))) b = some o := fun b o n e => by rw [upd_ne n, upd_ne n]; exact e
  exact q rows' ends' _ ⟨dx, ta, tb, upd_same, (mrows_of dr).but hp5 u6, (nats_of de).but hp5 u6⟩ L1 L2 fun b o n e => u6 b o n (s5 _ _ (u4 b o n (s13 _ _ e)))
end
end Vf

set_option Elab.async false
set_option linter.all false
set_option maxRecDepth 100000
set_option maxHeartbeats 4000000
namespace Vm
open PySem PySem.Spec PyProof.Rows L2 L2.Vx
/-! ### data of texts, ints, lists and tuples: what is equal, what is shown -/
section
mutual
def plainD : PyData → Bool
  | .int _ => true
  | .str x => x.cps.toList.all fun c => decide (c < 1000)
  | .list xs => plainDs xs
  | .tuple xs => plainDs xs
  | _ => false
def plainDs : List PyData → Bool
  | [] => true
  | x :: xs => plainD x && plainDs xs
end
mutual
theorem eqv_plain : ∀ (d e : PyData), plainD d = true → plainD e = true → PyData.eqv d e = true → d = e
  | .int i, .int j, _, _, h => by
    simp only [PyData.eqv, beq_iff_eq] at h
    rw [h]
  | .int _, .str _, _, _, h => by simp [PyData.eqv] at h
  | .int _, .list _, _, _, h => by simp [PyData.eqv] at h
  | .int _, .tuple _, _, _, h => by simp [PyData.eqv] at h
  | .str x, .str y, _, _, h => by
    simp only [PyData.eqv, beq_iff_eq] at h
    rw [h]
  | .str _, .int _, _, _, h => by simp [PyData.eqv] at h
  | .str _, .list _, _, _, h => by simp [PyData.eqv] at h
  | .str _, .tuple _, _, _, h => by simp [PyData.eqv] at h
  | .list xs, .list ys, h1, h2, h => by
    simp only [PyData.eqv] at h
    simp only [plainD] at h1 h2
    rw [eqv_plainAll xs ys h1 h2 h]
  | .list _, .int _, _, _, h => by simp [PyData.eqv] at h
  | .list _, .str _, _, _, h => by simp [PyData.eqv] at h
  | .list _, .tuple _, _, _, h => by simp [PyData.eqv] at h
  | .tuple xs, .tuple ys, h1, h2, h => by
    simp only [PyData.eqv] at h
    simp only [plainD] at h1 h2
    rw [eqv_plainAll xs ys h1 h2 h]
  | .tuple _, .int _, _, _, h => by simp [PyData.eqv] at h
  | .tuple _, .str _, _, _, h => by simp [PyData.eqv] at h
  | .tuple _, .list _, _, _, h => by simp [PyData.eqv] at h
  | .none, _, h, _, _ => by simp [plainD] at h
  | .bool _, _, h, _, _ => by simp [plainD] at h
  | .dict _, _, h, _, _ => by simp [plainD] at h
  | .int _, .none, _, h, _ => by simp [plainD] at h
  | .int _, .bool _, _, h, _ => by simp [plainD] at h
  | .int _, .dict _, _, h, _ => by simp [plainD] at h
  | .str _, .none, _, h, _ => by simp [plainD] at h
  | .str _, .bool _, _, h, _ => by simp [plainD] at h
  | .str _, .dict _, _, h, _ => by simp [plainD] at h
  | .list _, .none, _, h, _ => by simp [plainD] at h
  | .list _, .bool _, _, h, _ => by simp [plainD] at h
  | .list _, .dict _, _, h, _ => by simp [plainD] at h
  | .tuple _, .none, _, h, _ => by simp [plainD] at h
  | .tuple _, .bool _, _, h, _ => by simp [plainD] at h
  | .tuple _, .dict _, _, h, _ => by simp [plainD] at h
theorem eqv_plainAll : ∀ (xs ys : List PyData), plainDs xs = true → plainDs ys = true → PyData.eqvAll xs ys = true → xs = ys
  | [], [], _, _, _ => rfl
  | [], _ :: _, _, _, h => by simp [PyData.eqvAll] at h
  | _ :: _, [], _, _, h => by simp [PyData.eqvAll] at h
  | x :: xs, y :: ys, h1, h2, h => by
    simp only [plainDs, Bool.and_eq_true] at h1 h2
    simp only [PyData.eqvAll, Bool.and_eq_true] at h
    rw [eqv_plain x y h1.1 h2.1 h.1, eqv_plainAll xs ys h1.2 h2.2 h.2]
end
mutual
theorem lay_plain : ∀ d : PyData, plainD d = true → d.canLay0 = true
  | .int _, _ => by simp [PyData.canLay0]
  | .str x, h => by
    simp only [plainD, List.all_eq_true, decide_eq_true_iff] at h
    simp only [PyData.canLay0, PyData.strOk]
    rw [← Array.all_toList, List.all_eq_true]
    exact fun c hc => decide_eq_true (Nat.lt_trans (h c hc) (by decide))
  | .list xs, h => by
    simp only [plainD] at h
    simp only [PyData.canLay0]
    exact lay_plainAll xs h
  | .tuple xs, h => by
    simp only [plainD] at h
    simp only [PyData.canLay0]
    exact lay_plainAll xs h
  | .none, h => by simp [plainD] at h
  | .bool _, h => by simp [plainD] at h
  | .dict _, h => by simp [plainD] at h
theorem lay_plainAll : ∀ xs : List PyData, plainDs xs = true → PyData.canLayAll0 xs = true
  | [], _ => by simp [PyData.canLayAll0]
  | x :: xs, h => by
    simp only [plainDs, Bool.and_eq_true] at h
    simp only [PyData.canLayAll0, lay_plain x h.1, lay_plainAll xs h.2, Bool.and_self]
end
mutual
theorem dt_dp {K : PySem.W.Frag} {H : Hp} {S : Addr → Prop} : ∀ {v : V} {d : PyData}, Dt H S v d → plainD d = true → Dp K H v d
  | v, d, .flat e, h => by
    cases v with
    | int i => cases (show d = .int i from e); exact .int i
    | str x => cases (show d = .str x from e); exact .str x
    | non => cases (show d = .none from e); simp [plainD] at h
    | bl b => cases (show d = .bool b from e); simp [plainD] at h
    | _ => exact (show False from e).elim
  | _, _, .lst e _ r, h => by
    simp only [plainD] at h
    exact .lst (SqL.of e) (dtA_dp r h)
  | _, _, .tup e _ r, h => by
    simp only [plainD] at h
    exact .tup (SqT.of e) (dtA_dp r h)
  | _, _, .dct e _ r, h => by simp [plainD] at h
theorem dtA_dp {K : PySem.W.Frag} {H : Hp} {S : Addr → Prop} : ∀ {vs : List V} {ds : List PyData}, DtAll H S vs ds → plainDs ds = true → DpAll K H vs ds
  | _, _, .nil, _ => .nil
  | _, _, .cons a b, h => by
    simp only [plainDs, Bool.and_eq_true] at h
    exact .cons (dt_dp a h.1) (dtA_dp b h.2)
end
end
theorem plain_mkS {z : Wd} (h : ∀ c ∈ z, c < 1000) : plainD (.str (mkS z)) = true := by
  simp only [plainD, mkS_cps, List.all_eq_true, decide_eq_true_iff]
  exact h
theorem plainAll_of : ∀ {ds : List PyData}, (∀ d ∈ ds, plainD d = true) → plainDs ds = true
  | [], _ => by simp [plainDs]
  | x :: r, h => by
    simp only [plainDs, h x (List.mem_cons_self ..), plainAll_of fun d hd => h d (List.mem_cons_of_mem _ hd), Bool.and_self]
/-- bounds that are added up -/
inductive Fits (e : Nat) : Nat → Nat → List PyData → Prop
  | nil : Fits e 0 0 []
  | cons {b s n : Nat} {x : PyData} {ds : List PyData} : Fit b e x → Fits e s n ds → Fits e (b + s) (n + 1) (x :: ds)
theorem Fits.all {e s n : Nat} {ds : List PyData} (h : Fits e s n ds) : PyData.showableAll ds = true ∧ ((PyData.shownAll ds).map (·.length)).sum ≤ s ∧ (PyData.shownAll ds).length = n ∧ PyData.depthAll ds ≤ e := by
  induction h with
  | nil => exact ⟨by simp [PyData.showableAll], by simp [PyData.shownAll], by simp [PyData.shownAll], by simp [PyData.depthAll]⟩
  | cons hx _ ih =>
    obtain ⟨i1, i2, i3, i4⟩ := ih
    have h2 := hx.len
    have h3 := hx.dep
    refine ⟨by simp only [PyData.showableAll, hx.sh, i1, Bool.and_self], ?_, ?_, ?_⟩
    · simp only [PyData.shownAll, List.map_cons, List.sum_cons]
      omega
    · simp only [PyData.shownAll, List.length_cons, i3]
    · simp only [PyData.depthAll]
      exact Nat.max_le.mpr ⟨h3, i4⟩
theorem Fits.tup {e s n : Nat} {ds : List PyData} (h : Fits e s n ds) : Fit (s + 2 * n + 3) (e + 1) (.tuple ds) := by
  obtain ⟨i1, i2, i3, i4⟩ := h.all
  refine ⟨by simpa only [PyData.showable] using i1, ?_, by simp only [PyData.depth]; omega⟩
  simp only [PyData.shown]
  refine Nat.le_trans (tupleText_len_le _) ?_
  rw [i3]
  omega
theorem Fits.lst {e s n : Nat} {ds : List PyData} (h : Fits e s n ds) : Fit (s + 2 * n + 3) (e + 1) (.list ds) := by
  obtain ⟨i1, i2, i3, i4⟩ := h.all
  refine ⟨by simpa only [PyData.showable] using i1, ?_, by simp only [PyData.depth]; omega⟩
  simp only [PyData.shown]
  refine Nat.le_trans (listText_len_le _) ?_
  rw [i3]
  omega
end Vm

set_option Elab.async false
set_option linter.all false
set_option maxRecDepth 100000
set_option maxHeartbeats 4000000
namespace L2
open PySem PySem.Spec PyProof.Rows
/-! ### len(o), o[i] of an object with an own __len__, __getitem__ -/
section
variable {X : Cx} {CX : CXT} {k : Nat} {f C : Addr} {fd : FuncData} {ps : List Str} {sp : Sp} {E : XK} {dvs : List V} {ds : List Value}
theorem run_in1 {pins : List (Addr × Obj)} {σ : St} {H : Hp} {s : Shared} {Q : VK} {us : List Value} {vs : List V} {E' : Value → Shared → Prop} (F : FnOk X.prog X.w X.K X.mg X.base CX k f fd ps sp) (hr : Room (k + 1) X.A) (hb : Binds X.K fd ps ds) (hd : Vals dvs ds) (hx : Passes CX X.nox E)
    (I : Inv X pins σ H s) (r : Vals vs us) (h : sp (vs ++ dvs) H Q E) : wpAny (model X.prog X.w) X.A.in1 (call (.ref f) us) (EP X pins σ Q) E' s := by
  have r2 : Vals (vs ++ dvs) (us ++ ds) := r.append hd
  have hl : (us ++ ds).length = ps.length := by rw [← r2.length]; exact F.len _ _ _ _ h
  refine wpAny_call (codeAny_mono (F.run X.A.in1 X.stack s H ⟨us, []⟩ (us ++ ds) (vs ++ dvs) Q E hr.in1 I.env0.in1 (hb s us I.kIn hl) r2 h) fun r s' hq => ?_)
  cases r with
  | error e => exact False.elim (hx pins σ H s e s' (I.wish _) hq)
  | ok fl =>
    cases fl with
    | ret u => exact I.after hq
    | next => exact False.elim hq
    | brk => exact False.elim hq
    | cont => exact False.elim hq
def rLenO (C : Addr) (sp : Sp) (dvs : List V) (E : XK) : List V → Hp → VK → Prop := fun xs H Q => ∃ a dx fs, xs = [.ref a] ∧ H a = some (.ins C dx fs) ∧ sp ([.ref a] ++ dvs) H (fun v H' => ∃ n : Int, v = .int n ∧ 0 ≤ n ∧ n < 2 ^ 63 ∧ Q (.int n) H') E
theorem call_lenO (hm : Meth X.K C "__len__" f) (F : FnOk X.prog X.w X.K X.mg X.base CX k f fd ps sp) (hr : Room (k + 1) X.A) (hb : Binds X.K fd ps ds) (hd : Vals dvs ds) (hx : Passes CX X.nox E) :
    CallR X (.builtin "len") (rLenO C sp dvs E) := by
  intro pins s σ H xs us Q I r h
  obtain ⟨a, dx, fs, rfl, ea, q⟩ := h
  cases r with
  | cons rv rn =>
    cases rn
    rename_i u
    obtain rfl : u = Value.ref a := rv
    obtain ⟨mA, O, _, _, _, _⟩ := ins_get I.hok ea
    obtain ⟨od, J, _⟩ := O.look
    have go := run_in1 (us := [.ref a]) (vs := [.ref a]) (E' := X.xe) F hr hb hd hx I (.cons rfl .nil) q
    refine Calls.call_function_entry kind_len plain_len entry_len (args_len1 _) ?_
    unfold Builtin.«len»
    refine wpAny_bind (m := oneArg "len" _) (wpAny_pure ?_)
    refine wpAny_bind (m := callSpecial? (.ref a) (Str.ofString "__len__")) (PySem.W.special_fn I.kIn J hm.at_ (beq_iff_eq.mp hm.fn) (wpAny_mono go (fun r s' hr => ?_) fun _ _ y => y))
    obtain ⟨v1, H1, I1, r1, n, rfl, h0, h1, q1⟩ := hr
    obtain ⟨t, rfl⟩ : ∃ t, r = Value.int n t := r1
    refine wpAny_bind (wpAny_holding (wpAny_pure ?_))
    refine wpAny_bind (wpAny_letGo ?_)
    show wpAny _ _ (if n < 0 then _ else _) _ _ _
    rw [if_neg (by omega)]
    show wpAny _ _ (if n ≥ 2 ^ 63 then _ else _) _ _ _
    rw [if_neg (by omega)]
    exact wpAny_bind (wpAny_mkInt (wpAny_pure ⟨_, rfl, V.int n, H1, I1.tok _, ⟨_, rfl⟩, q1⟩))
def rIxO (C : Addr) (sp : Sp) (dvs : List V) (E : XK) : R2 := fun x y H Q => ∃ a dx fs, x = .ref a ∧ H a = some (.ins C dx fs) ∧ sp ([x, y] ++ dvs) H Q E
theorem pe_ixO {a b : Expr} {ta tb : TE} {pos : Pos} (hm : Meth X.K C "__getitem__" f) (hf : PySem.W.fnIn X.K f = true) (F : FnOk X.prog X.w X.K X.mg X.base CX k f fd ps sp) (hr : Room (k + 1) X.A) (hb : Binds X.K fd ps ds) (hd : Vals dvs ds) (hx : Passes CX X.nox E)
    (ha : PE X a ta) (hi : PE X b tb) (hs : ∀ v u, subscripted b true v u = runValue (.builtin "lifetime.subscript" ⟨[v, u], []⟩)) : PE X (.Subscript a b pos) (tOp (rIxO C sp dvs E) ta tb) := by
  refine ⟨fun pins s σ H Q I h => ?_⟩
  refine Subscript_ (binT ha hi I h fun v u s2 x y H2 I2 rx ry q => ?_)
  obtain ⟨p, dx, fs, rfl, ea, q⟩ := q
  obtain rfl : v = Value.ref p := rx
  obtain ⟨mA, O, _, _, _, _⟩ := ins_get I2.hok ea
  obtain ⟨od, J, _⟩ := O.look
  have go := run_in1 (us := [.ref p, u]) (vs := [.ref p, y]) (E' := X.xe) F hr hb hd hx I2 (.cons rfl (.cons ry .nil)) q
  unfold PySem.W.fnIn at hf
  split at hf
  · rename_i e
    unfold subscriptTail getitemInPython
    refine wpAny_bind (wpAny_bind (wpAny_bind (J.type.here ((PySem.W.looks_findIn I2.kIn hm.at_).here ?_))))
    dsimp only
    refine wpAny_bind (wpAny_load (I2.kIn _ _ e) (wpAny_pure ?_))
    dsimp only
    rw [hs]
    refine wpAny_bind (wpAny_runValue (codeAny_builtin PySem.W.entry_sub ?_))
    unfold Builtin.«lifetime.subscript»
    refine wpAny_bind (PySem.W.special_fn I2.kIn J hm.at_ (beq_iff_eq.mp hm.fn) (wpAny_mono go (fun v s' z => ?_) fun _ _ z => z))
    refine wpAny_pure ?_
    show wpAny (model X.prog X.w) X.A (letTemporaryGo a (.ref p) v >>= fun _ => pure v) _ X.xe s'
    exact wpAny_bind (wpAny_letTemporaryGo (wpAny_pure z))
  · cases hf
end
end L2
namespace L2
open PySem PySem.Spec PyProof.Rows
/-! ### o.m(k = v, ..) -/
section
variable {X : Cx} {CX : CXT} {k : Nat} {f C : Addr} {fd : FuncData} {ps ks : List Str} {sp : Sp} {E : XK} {o : Expr} {m : Str} {apos pos : Pos} {kws : List Keyword} {ta : TE} {tk : TA} {g : List Value → List Value → List Value} {gV : List V → List V → List V}
def tMethK0 (C : Addr) (m : Str) (sp : Sp) (gV : List V → List V → List V) (E : XK) (ta : TE) (tk : TA) : TE := fun σ H Q => ta σ H fun x H1 => ∃ a dx fs, x = .ref a ∧ H1 a = some (.ins C dx fs) ∧ fs.lookup m = none ∧ tk σ H1 fun zs H2 => sp (gV [x] zs) H2 Q E
theorem pe_methK0 {pl : Sem Bool} (he : PE X o ta) (c : Cls X.K C) (hm : Meth X.K C m f) (F : FnOk X.prog X.w X.K X.mg X.base CX k f fd ps sp) (hr : Room k X.A) (hb : KBinds X.K fd ps ks g gV) (hx : Passes CX X E) (hkw : PK X kws tk)
    (hall : (backToKw pos (keywordEach kws X.env)).all (·.1.isSome) = true := by rfl) (hks : (backToKw pos (keywordEach kws X.env)).filterMap (·.1) = ks := by rfl)
    (hpl : ((backTo pos (starEach [] X.env)).any (·.1) || (backToKw pos (keywordEach kws X.env)).any (·.1.isNone)) = false := by rfl)
    (ht : eval (.Call (.Attribute o m apos) [] kws pos) X.env = (do
      let ov ← eval o X.env
      standAt apos.atName
      let (f, first) ← holding [ov] (getMethod ov m pl)
      callWith pos f first (backTo pos (starEach [] X.env)) (backToKw pos (keywordEach kws X.env))) := by rfl) :
    PE X (.Call (.Attribute o m apos) [] kws pos) (tMethK0 C m sp gV E ta tk) := by
  refine ⟨fun pins s σ H Q I h => ?_⟩
  refine PySem.W.methodCall_KW (pl := pl) (thn (he.run pins s σ H _ I h) fun u s1 ⟨x, H1, I1, rx, a, dx, fs, ex, ea, l, q⟩ => ?_) ht
  subst ex
  obtain rfl : u = Value.ref a := rx
  refine getmeth_ok I1 ea c hm l ?_
  refine PySem.W.callWith_KW0 (first := [.ref a]) (h₀ := X.base) I.ok.mod.kin hm.kp hall (thn (hkw.run pos pins s1 σ H1 _ I1 q) fun ws s2 ⟨zs, H2, I2, rz, q2⟩ => ⟨I2.kIn, ?_⟩) hpl
  rw [hks]
  exact run_fnk (us := [.ref a]) (vs := [.ref a]) F hr hb hx I2 (.cons rfl .nil) rz q2
end
end L2

set_option Elab.async false
set_option linter.all false
set_option maxRecDepth 100000
set_option maxHeartbeats 1000000
namespace L2
open PySem PySem.Spec PyProof.Rows
/-! ### x == y by an own __eq__ that answers True or False -/
section
variable {X : Cx} {CX : CXT} {k : Nat} {f C : Addr} {fd : FuncData} {ps : List Str} {sp : Sp} {E : XK}
theorem cmpBack_of {Q : Value → Shared → Prop} {v : Value} {s : Shared} (h : v ≠ .notImplemented) (q : Q v s) : PySem.W.CmpBack Q v s := by
  cases v <;> first | exact q | exact absurd rfl h
/-- both are of that class -/
def Beside (K : PySem.W.Frag) (C : Addr) (H : Hp) (y : V) : Prop := (∃ b dy gs, y = .ref b ∧ H b = some (.ins C dy gs)) ∨ ∃ tb, TyX K H y tb ∧ PySem.W.notFirst K C tb = true
theorem Beside.looks {pins : List (Addr × Obj)} {σ : St} {H : Hp} {s : Shared} {y : V} {u : Value} (I : Inv X pins σ H s) (ry : RelV y u) (h : Beside X.K C H y) : ∃ tb, PySem.W.Looks (model X.prog X.w) s.heap (typeOf u) tb ∧ PySem.W.notFirst X.K C tb = true := by
  rcases h with ⟨b, dy, gs, rfl, eb⟩ | ⟨tb, ty, hn⟩
  · obtain rfl : u = Value.ref b := ry
    obtain ⟨mB, O', _, _, _, _⟩ := ins_get I.hok eb
    obtain ⟨od', J', _⟩ := O'.look
    exact ⟨.ref C, J'.type, by simp [PySem.W.notFirst]⟩
  · obtain ⟨Z, kx, hz, _⟩ := kit_of I ry ty
    exact ⟨tb, kx.ty _ _ I.kIn hz, hn⟩
def rEqO (K : PySem.W.Frag) (C : Addr) (sp : Sp) (E : XK) : R2 := fun x y H Q => ∃ a dx fs, x = .ref a ∧ H a = some (.ins C dx fs) ∧ Beside K C H y ∧ sp [x, y] H (fun v H' => ∃ b, v = .bl b ∧ Q (.bl b) H') E
def rNeO (K : PySem.W.Frag) (C : Addr) (sp : Sp) (E : XK) : R2 := fun x y H Q => ∃ a dx fs, x = .ref a ∧ H a = some (.ins C dx fs) ∧ Beside K C H y ∧ sp [x, y] H (fun v H' => ∃ b, v = .bl b ∧ Q (.bl (!b)) H') E
theorem op_eqO (hs : PySem.W.findIn X.K (.ref C) "__eq__" = some (some (.ref f))) (hf : PySem.W.isFn X.K (.ref f) = true) (F : FnOk X.prog X.w X.K X.mg X.base CX k f fd ps sp) (hr : Room k X.A) (hb : Binds X.K fd ps []) (hx : Passes CX X E) (hu : X.A.units < cLine) :
    OpR X (compareOp .Eq) (rEqO X.K C sp E) := by
  intro pins s σ H x y v u Q I rx ry h
  obtain ⟨a, dx, fs, rfl, ea, hy, q⟩ := h
  obtain rfl : v = Value.ref a := rx
  obtain ⟨tb, lk, hn⟩ := hy.looks I ry
  obtain ⟨mA, O, _, _, _, _⟩ := ins_get I.hok ea
  obtain ⟨od, J, _⟩ := O.look
  obtain ⟨m, hF⟩ := I.fr
  show wpAny (model X.prog X.w) X.A (richCompare .Eq (.ref a) u) (EP X pins σ Q) X.xe s
  refine PySem.W.cmp_K (op := .Eq) (tb := tb) hu hF I.ok.mod.kin J lk hn hs hf ?_
  have go := run_fn (dvs := []) (us := [.ref a, u]) (vs := [.ref a, y]) F hr hb .nil hx I (.cons rfl (.cons ry .nil)) q
  refine wpAny_mono go (fun r s' z => ?_) fun _ _ z => z
  obtain ⟨v1, H1, I1, r1, b1, rfl, q1⟩ := z
  obtain rfl : r = Value.bool b1 := r1
  exact cmpBack_of (by intro z; cases z) ⟨.bl b1, H1, I1, rfl, q1⟩
end
end L2
namespace HN
open PySem PySem.Spec PyProof.Rows PySem.SeqAt
section
variable {M : Model} {prog : Program} {w : World} {A : Around} {E : Value → Shared → Prop} {s : Shared} {K : PySem.W.Frag} {x C f : Addr} {ox : Obj} {od : Option Obj} {b : Value}
theorem entry_ne {Q : Fin → Shared → Prop} (hu : A.units < cLine) (X : K.In s.heap) (I : PySem.W.InstAt s.heap x ox C od) (hs : PySem.W.findIn K (.ref C) "__eq__" = some (some (.ref f))) (hf : PySem.W.isFn K (.ref f) = true)
    (h : wpAny (model prog w) A (call (.ref f) [.ref x, b]) (fun v s' => ∃ c, v = .bool c ∧ Q (.done (.ret (.bool (!c)))) s') E s) : wpAny (model prog w) A (Builtin.«object.__ne__» ⟨[.ref x, b], []⟩) Q E s := by
  unfold Builtin.«object.__ne__»
  repeat (first
    | with_reducible refine wpAny_cRoomFor hu ?_
    | (refine wpAny_bind (m := callSpecialIfBound? (.ref x) (Str.ofString "__eq__") [b])
        (PySem.W.ifBound_K X I hs hf (wpAny_mono h (fun r s' hr => by
          obtain ⟨c, rfl, hq⟩ := hr
          repeat (first | exact hq | exact wpAny_pure hq | exact wpAny_truthy_bool hq | (refine wpAny_bind (m := truthy (.bool _)) (wpAny_truthy_bool ?_)) | wp_step)) fun _ _ e => e)))
    | wp_step)
theorem call_objNe {Q : Value → Shared → Prop} (hu : A.in1.units < cLine) (X : K.In s.heap) (I : PySem.W.InstAt s.heap x ox C od) (hm : PySem.W.mroIn K C (.type "object") = some true) (hs : PySem.W.findIn K (.ref C) "__eq__" = some (some (.ref f))) (hf : PySem.W.isFn K (.ref f) = true)
    (h : wpAny (model prog w) A.in1 (call (.ref f) [.ref x, b]) (fun v s' => ∃ c, v = .bool c ∧ Q (.bool (!c)) s') E s) : wpAny (model prog w) A (call (.builtin "object.__ne__") [.ref x, b]) Q E s :=
  wpAny_call (codeAny_call_builtin F.cmp_object.ne.plain F.cmpEntry_ne (PySem.W.check_slot F.cmpKind_ne F.cmpSplit_ne (I.type.andThen (PySem.W.looks_mroIn X hm)) (F.cmpArgs_ne _ _) (entry_ne hu X I hs hf h)))
theorem ifBound_objNe {args : List Value} {Q : Option Value → Shared → Prop} (X : K.In s.heap) (I : PySem.W.InstAt s.heap x ox C od) (hs : PySem.W.findIn K (.ref C) "__ne__" = some (some (.builtin "object.__ne__")))
    (h : wpAny M A (call (.builtin "object.__ne__") (.ref x :: args)) (fun v => Q (some v)) E s) : wpAny M A (callSpecialIfBound? (.ref x) "__ne__" args) Q E s := by
  simp only [callSpecialIfBound?, bindSpecialIfBound?]
  refine wpAny_holding (wpAny_bind (wpAny_bind (wpAny_bind (I.type.here ((PySem.W.looks_findIn X hs).here ?_)))))
  refine wpAny_bind (wpAny_askSetting (wpAny_ite ?_))
  have fin : wpAny M A (call (.builtin "object.__ne__") ([.ref x] ++ args) >>= fun v => pure (some v)) Q E s := wpAny_bind (wpAny_mono h (fun v s' h' => wpAny_pure h') fun _ _ h' => h')
  split
  · exact wpAny_bind (wpAny_of_eq (F.cmp_object.ne.bind _) (wpAny_pure (by exact fin)))
  · exact wpAny_tryCatch (wpAny_bind (wpAny_of_eq (F.cmp_object.ne.bind _) (wpAny_pure (by exact fin))))
theorem ne_own {Q : Value → Shared → Prop} {h₀ : Heap} {L : Addr} {m : Str → Option Value} {tb : Value} (hu : A.units < cLine) (hu1 : A.in1.units < cLine) (FF : PyProof.Rows.Fr h₀ L s.heap m) (X₀ : K.In h₀) (I : PySem.W.InstAt s.heap x ox C od)
    (hb : PySem.W.Looks (model prog w) s.heap (typeOf b) tb) (hn : PySem.W.notFirst K C tb = true) (hm : PySem.W.mroIn K C (.type "object") = some true)
    (hs : PySem.W.findIn K (.ref C) "__eq__" = some (some (.ref f))) (hs2 : PySem.W.findIn K (.ref C) "__ne__" = some (some (.builtin "object.__ne__"))) (hf : PySem.W.isFn K (.ref f) = true)
    (h : wpAny (model prog w) A.in1 (call (.ref f) [.ref x, b]) (fun v s' => ∃ c, v = .bool c ∧ Q (.bool (!c)) s') E s) : wpAny (model prog w) A (richCompare .NotEq (.ref x) b) Q E s := by
  have X := X₀.keeps FF.keep
  have one : wpAny (model prog w) A (tryCompare (.ref x) (cmpInfo .NotEq).2.1 b) (fun r s' => ∃ v, r = some v ∧ Q v s') E s := by
    rw [cmpInfo_NotEq]
    unfold tryCompare
    refine wpAny_bind (ifBound_objNe X I hs2 (call_objNe hu1 X I hm hs hf (wpAny_mono h (fun v s' hv => ?_) fun _ _ e => e)))
    obtain ⟨c, rfl, hq⟩ := hv
    exact ⟨c, rfl, wpAny_pure ⟨_, rfl, hq⟩⟩
  unfold richCompare
  simp only [oneThing_ref]
  refine wpAny_holding (wpAny_bind (wpAny_cRoomFor hu ?_))
  refine wpAny_bind (I.type.here (wpAny_bind (hb.here ?_)))
  split
  · rename_i q
    have e : PySem.W.subIn K tb (.ref C) = some false := by
      rcases Bool.or_eq_true_iff.mp hn with e | e
      · rw [beq_iff_eq.mp e] at q; simp at q
      · exact beq_iff_eq.mp e
    refine wpAny_bind ((PySem.W.looks_subIn X e).here ?_)
    simp only [Bool.false_eq_true, if_false]
    refine wpAny_bind (wpAny_mono one (fun r s' z => ?_) fun _ _ e => e)
    obtain ⟨v, rfl, hq⟩ := z
    exact wpAny_pure hq
  · refine wpAny_bind (wpAny_pure ?_)
    simp only [Bool.false_eq_true, if_false]
    refine wpAny_bind (wpAny_mono one (fun r s' z => ?_) fun _ _ e => e)
    obtain ⟨v, rfl, hq⟩ := z
    exact wpAny_pure hq
end
end HN
namespace L2
open PySem PySem.Spec PyProof.Rows
section
variable {X : Cx} {CX : CXT} {k : Nat} {f C : Addr} {fd : FuncData} {ps : List Str} {sp : Sp} {E : XK}
/-- x != y, where there is no own __ne__ -/
theorem op_neO (hm : PySem.W.mroIn X.K C (.type "object") = some true) (hs : PySem.W.findIn X.K (.ref C) "__eq__" = some (some (.ref f))) (hs2 : PySem.W.findIn X.K (.ref C) "__ne__" = some (some (.builtin "object.__ne__"))) (hf : PySem.W.isFn X.K (.ref f) = true)
    (F : FnOk X.prog X.w X.K X.mg X.base CX k f fd ps sp) (hr : Room (k + 1) X.A) (hb : Binds X.K fd ps []) (hx : Passes CX X.nox E) (hu : X.A.units < cLine) (hu1 : X.A.in1.units < cLine) :
    OpR X (compareOp .NotEq) (rNeO X.K C sp E) := by
  intro pins s σ H x y v u Q I rx ry h
  obtain ⟨a, dx, fs, rfl, ea, hy, q⟩ := h
  obtain rfl : v = Value.ref a := rx
  obtain ⟨tb, lk, hn⟩ := hy.looks I ry
  obtain ⟨mA, O, _, _, _, _⟩ := ins_get I.hok ea
  obtain ⟨od, J, _⟩ := O.look
  obtain ⟨m, hF⟩ := I.fr
  show wpAny (model X.prog X.w) X.A (richCompare .NotEq (.ref a) u) (EP X pins σ Q) X.xe s
  have go := run_in1 (dvs := []) (ds := []) (us := [.ref a, u]) (vs := [.ref a, y]) (E' := X.xe) F hr hb .nil hx I (.cons rfl (.cons ry .nil)) q
  refine HN.ne_own hu hu1 hF I.ok.mod.kin J lk hn hm hs hs2 hf (wpAny_mono go (fun r s' z => ?_) fun _ _ z => z)
  obtain ⟨v1, H1, I1, r1, b1, rfl, q1⟩ := z
  obtain rfl : r = Value.bool b1 := r1
  exact ⟨b1, rfl, .bl (!b1), H1, I1, rfl, q1⟩
end
end L2

set_option Elab.async false
set_option linter.all false
set_option maxRecDepth 100000
set_option maxHeartbeats 1000000
namespace Vf
open PySem PySem.Spec PyProof.Rows L2 L2.Vx Vs Vm Vd
abbrev sLLen : Stmt := inClass clsL 4
abbrev sLBool : Stmt := inClass clsL 5
abbrev sLEq : Stmt := inClass clsL 6
/-! ### len, bool, == of languages -/
theorem if_tr {A B : Prop} {c : Bool} (e : c = true) (h : A) : if c = true then A else B := by
  rw [e]
  exact h
theorem nats_plain (ns : List Nat) : plainD (natsT ns) = true := by
  show plainDs _ = true
  refine plainAll_of fun d hd => ?_
  obtain ⟨n, _, rfl⟩ := List.mem_map.mp hd
  simp [plainD]
theorem rows_plain (rows : List (List Nat)) : plainD (rowsT rows) = true := by
  show plainDs _ = true
  refine plainAll_of fun d hd => ?_
  obtain ⟨r, _, rfl⟩ := List.mem_map.mp hd
  exact nats_plain r
theorem nats_depth (ns : List Nat) : (natsT ns).depth ≤ 1 := by
  have h : ∀ l : List Nat, PyData.depthAll (l.map fun n => PyData.int (n : Nat)) = 0 := fun l => by
    induction l with
    | nil => rfl
    | cons p r ih => simp only [List.map, PyData.depthAll, PyData.depth, ih, Nat.max_self]
  unfold natsT
  simp only [PyData.depth, h]
  omega
theorem rows_depth (rows : List (List Nat)) : (rowsT rows).depth ≤ 2 := by
  have h : ∀ l : List (List Nat), PyData.depthAll (l.map natsT) ≤ 1 := fun l => by
    induction l with
    | nil => exact Nat.zero_le _
    | cons p r ih =>
      rw [List.map_cons]
      simp only [PyData.depthAll]
      exact Nat.max_le.mpr ⟨nats_depth p, ih⟩
  have := h rows
  unfold rowsT
  simp only [PyData.depth]
  omega
theorem nats_shaped (ns : List Nat) : SeqAt.shaped (natsT ns) = true := by
  show (PyData.canLay0 _ && decide (_ ≤ 64)) = true
  rw [lay_plain _ (nats_plain ns), Bool.true_and]
  have := nats_depth ns
  exact decide_eq_true (by omega)
theorem rows_shaped (rows : List (List Nat)) : SeqAt.shaped (rowsT rows) = true := by
  show (PyData.canLay0 _ && decide (_ ≤ 64)) = true
  rw [lay_plain _ (rows_plain rows), Bool.true_and]
  have := rows_depth rows
  exact decide_eq_true (by omega)
theorem natsT_inj {a b : List Nat} (h : natsT a = natsT b) : a = b := by
  have e := PyData.tuple.inj h
  have : (fun n : Nat => PyData.int (n : Nat)).Injective ∨ True := .inr trivial
  induction a generalizing b with
  | nil => cases b with
    | nil => rfl
    | cons _ _ => cases e
  | cons x r ih => cases b with
    | nil => cases e
    | cons y s =>
      obtain ⟨e1, e2⟩ := List.cons.inj e
      have e3 : (x : Int) = (y : Int) := PyData.int.inj e1
      rw [ih (b := s) (congrArg PyData.tuple e2) e2, Int.ofNat.inj e3]
theorem rowsT_inj {a b : List (List Nat)} (h : rowsT a = rowsT b) : a = b := by
  have e := PyData.tuple.inj h
  induction a generalizing b with
  | nil => cases b with
    | nil => rfl
    | cons _ _ => cases e
  | cons x r ih => cases b with
    | nil => cases e
    | cons y s =>
      obtain ⟨e1, e2⟩ := List.cons.inj e
      rw [ih (b := s) (congrArg PyData.tuple e2) e2, natsT_inj e1]
theorem nats_eqv (a b : List Nat) : PyData.eqv (natsT a) (natsT b) = decide (a = b) := by
  by_cases c : a = b
  · subst c
    rw [decide_eq_true rfl]
    exact SeqAt.eqv_refl _ (lay_plain _ (nats_plain a))
  · rw [decide_eq_false c]
    exact Bool.eq_false_iff.mpr fun e => c (natsT_inj (eqv_plain _ _ (nats_plain a) (nats_plain b) e))
theorem rows_eqv (a b : List (List Nat)) : PyData.eqv (rowsT a) (rowsT b) = decide (a = b) := by
  by_cases c : a = b
  · subst c
    rw [decide_eq_true rfl]
    exact SeqAt.eqv_refl _ (lay_plain _ (rows_plain a))
  · rw [decide_eq_false c]
    exact Bool.eq_false_iff.mpr fun e => c (rowsT_inj (eqv_plain _ _ (rows_plain a) (rows_plain b) e))
structure TxtLq (K : PySem.W.Frag) (mg : Str → Option Value) (C : Addr) : Prop extends TxtLg K mg C where
  isi : mg "isinstance" = none
  gL : mg "Language" = some (.ref C)
  own : PySem.W.kitOne K (.ref C) (.ref C) = some true
  ha : PySem.W.findIn K (.ref C) "__class__" = some (some (.builtin "object.__class__"))
  hn : PySem.W.specialIn K (.builtin "object.__class__") "__get__" = some (some (.builtin "getset_descriptor.__get__"))
  htk : PySem.W.takesIn K (.builtin "object.__class__") = some true
  hm : PySem.W.mroIn K C (.type "object") = some true
def spLLen (C : Addr) : Sp := fun vs H Q _ => ∃ (p : Addr) (a : Str) (rows : List (List Nat)) (ends : List Nat), vs = [.ref p] ∧ LangL C H p a rows ends ∧ Q (.int (rows.length : Nat)) H
def spLBool : Sp := fun vs H Q _ => ∃ v, vs = [v] ∧ Q (.bl true) H
def spLEq (K : PySem.W.Frag) (C : Addr) : Sp := fun vs H Q _ => ∃ (p : Addr) (a : Str) (rows : List (List Nat)) (ends : List Nat) (v : V), vs = [.ref p, v] ∧ LangL C H p a rows ends ∧
  ((∃ (q : Addr) (a' : Str) (rows' : List (List Nat)) (ends' : List Nat), v = .ref q ∧ LangL C H q a' rows' ends' ∧ Q (.bl (decide (a = a') && (decide (rows = rows') && decide (ends = ends')))) H) ∨
   (∃ t, TyX K H v t ∧ PySem.W.kitOne K t (.ref C) = some false ∧ Q (.bl false) H))
section
variable {P : Program} {w : World} {K : PySem.W.Frag} {mg : Str → Option Value} {base : Heap} {C : Addr}
theorem scLLen : FnScope ["self"] ["self"] (defScope sLLen) := ⟨rfl, rfl, rfl, by decide +kernel, rfl, by decide +kernel, by decide +kernel⟩
theorem scLBool : FnScope ["self"] ["self"] (defScope sLBool) := ⟨rfl, rfl, rfl, by decide +kernel, rfl, by decide +kernel, by decide +kernel⟩
theorem scLEq : FnScope ["self", "other"] ["self", "other"] (defScope sLEq) := ⟨rfl, rfl, rfl, by decide +kernel, rfl, by decide +kernel, by decide +kernel⟩
theorem ok_llen {f : Addr} {fd : FuncData} (F : Fun K "__len__" "Language.__len__" sLLen f fd) (T : TxtLg K mg C) : FnOk P w K mg base CX0 1 f fd ["self"] (spLLen C) := by
  refine F.ok scLLen (fun vs H Q E h => ?_) (fun cdv A outer s H vs Q E hr h => ?_)
  · obtain ⟨p, a, rows, ends, rfl, _⟩ := h
    rfl
  obtain ⟨p, a, rows, ends, rfl, ⟨dx, vr, ve, h1, ⟨ra, rbs, rfl, h2, h3, h4⟩, h5⟩, q⟩ := h
  refine ⟨_, (pss_one (ps_ret (pe_callB call_len_seq (by rfl) T.len PySem.boot_len (pa_cons (pe_fld (pv 0) rfl) pa_nil)))), ?_⟩
  refine ⟨_, rfl, p, C, dx, _, _, rfl, h1, T.cl, T.nR, rfl, ra, rbs, rfl, .inr (SqT.of h2), ?_⟩
  rw [h3]
  exact q
theorem ok_lbool {f : Addr} {fd : FuncData} (F : Fun K "__bool__" "Language.__bool__" sLBool f fd) : FnOk P w K mg base CX0 1 f fd ["self"] spLBool := by
  refine F.ok scLBool (fun vs H Q E h => ?_) (fun cdv A outer s H vs Q E hr h => ?_)
  · obtain ⟨v, rfl, _⟩ := h
    rfl
  obtain ⟨v, rfl, q⟩ := h
  exact ⟨_, pss_one (ps_ret pe_bl), q⟩
theorem ok_leq {f : Addr} {fd : FuncData} (F : Fun K "__eq__" "Language.__eq__" sLEq f fd) (T : TxtLq K mg C) : FnOk P w K mg base CX0 1 f fd ["self", "other"] (spLEq K C) := by
  refine F.ok scLEq (fun vs H Q E h => ?_) (fun cdv A outer s H vs Q E hr h => ?_)
  · obtain ⟨p, a, rows, ends, v, rfl, _⟩ := h
    rfl
  obtain ⟨p, a, rows, ends, v, rfl, hp, hq⟩ := h
  have hu := hu_of hr
  have hu64 : (A.deeper (envOfC "Language.__eq__" (defScope sLEq) s.heap.objs.size f cdv)).units + 64 < cLine := by
    have z := hr.un
    omega
  refine ⟨_, (pss_one (ps_ret (pe_and (pe_callB call_isi (by rfl) T.isi (by decide +kernel) (pa_cons (pv 1) (pa_cons (pe_glob (v := .ref C) rfl T.gL rfl) pa_nil))) (pe_and (pe_cmpR op_eq (pe_fld (pv 0) rfl) (pe_fld (pv 1) rfl) (nomark _)) (pe_and (pe_cmpR (op_eqD hu64) (pe_fld (pv 0) rfl) (pe_fld (pv 1) rfl) (nomark _)) (pe_one (pe_cmpR (op_eqD hu64) (pe_fld (pv 0) rfl) (pe_fld (pv 1) rfl) (nomark _)))))))), ?_⟩
  rcases hq with ⟨q, a', rows', ends', rfl, hq, k⟩ | ⟨t, ty, e, k⟩
  · obtain ⟨dx, vr, ve, h1, h2, h3⟩ := hp
    obtain ⟨dy, wr, we, g1, g2, g3⟩ := hq
    refine ⟨_, rfl, _, _, _, _, _, rfl, .own _, .base (.ins g1 T.cl T.ha T.hn T.htk T.hm), T.own, ?_⟩
    refine ⟨_, rfl, if_tr rfl ?_⟩
    refine ⟨_, rfl, p, C, dx, _, _, rfl, h1, T.cl, T.nL, rfl, _, rfl, q, C, dy, _, _, rfl, g1, T.cl, T.nL, rfl, rfl, ?_⟩
    refine ⟨_, rfl, ?_⟩
    have e1 : decide (V.str a = V.str a') = decide (a = a') := decide_eq_decide.mpr ⟨fun h => V.str.inj h, fun h => by rw [h]⟩
    rw [e1]
    by_cases c1 : a = a'
    rotate_left
    · rw [decide_eq_false c1] at k ⊢
      exact if_fl rfl k
    rw [decide_eq_true c1] at k ⊢
    rw [Bool.true_and] at k
    refine if_tr rfl ?_
    have p1 : Dp K H vr (rowsT rows) := dt_dp h2.dt (rows_plain rows)
    have p2 : Dp K H wr (rowsT rows') := dt_dp g2.dt (rows_plain rows')
    have p3 : Dp K H ve (natsT ends) := dt_dp h3.dt (nats_plain ends)
    have p4 : Dp K H we (natsT ends') := dt_dp g3.dt (nats_plain ends')
    refine ⟨_, rfl, p, C, dx, _, _, rfl, h1, T.cl, T.nR, rfl, _, rfl, q, C, dy, _, _, rfl, g1, T.cl, T.nR, rfl, _, _, p1, p2, rows_shaped _, rows_shaped _, ?_⟩
    refine ⟨_, rfl, ?_⟩
    rw [rows_eqv]
    by_cases c2 : rows = rows'
    rotate_left
    · rw [decide_eq_false c2] at k ⊢
      exact if_fl rfl k
    rw [decide_eq_true c2] at k ⊢
    rw [Bool.true_and] at k
    refine if_tr rfl ?_
    refine ⟨_, rfl, p, C, dx, _, _, rfl, h1, T.cl, T.nE, rfl, _, rfl, q, C, dy, _, _, rfl, g1, T.cl, T.nE, rfl, _, _, p3, p4, nats_shaped _, nats_shaped _, ?_⟩
    rw [nats_eqv]
    exact k
  · refine ⟨_, rfl, _, _, _, _, _, rfl, .own _, ty, e, ⟨_, rfl, if_fl rfl k⟩⟩
end
end Vf

set_option Elab.async false
set_option linter.all false
set_option maxRecDepth 100000
set_option maxHeartbeats 1000000
namespace Vf
open PySem PySem.Spec PyProof.Rows L2 L2.Vx
/-! ### the least machine, made by first states of each kind -/
def Sim (rows : List (List Nat)) (k : Nat) (ends : List Nat) (p q : Nat) : Prop := ∀ w : List Nat, (∀ a ∈ w, a < k) → (led rows w p ∈ ends ↔ led rows w q ∈ ends)
theorem Sim.refl {rows : List (List Nat)} {k : Nat} {ends : List Nat} (p : Nat) : Sim rows k ends p p := fun _ _ => Iff.rfl
theorem Sim.symm {rows : List (List Nat)} {k : Nat} {ends : List Nat} {p q : Nat} (h : Sim rows k ends p q) : Sim rows k ends q p := fun w hw => (h w hw).symm
theorem Sim.trans {rows : List (List Nat)} {k : Nat} {ends : List Nat} {p q r : Nat} (h : Sim rows k ends p q) (g : Sim rows k ends q r) : Sim rows k ends p r := fun w hw => (h w hw).trans (g w hw)
theorem Sim.next {rows : List (List Nat)} {k : Nat} {ends : List Nat} {p q a : Nat} (ha : a < k) (h : Sim rows k ends p q) : Sim rows k ends (nextOf rows a p) (nextOf rows a q) := fun w hw => h (a :: w) fun b hb => (List.mem_cons.mp hb).elim (fun e => e ▸ ha) (hw b)
def mateOf (ap : Nat → Nat → Bool) (fs : List Nat) (t : Nat) : Nat := fs.findIdx fun s => !ap s t
def addF (ap : Nat → Nat → Bool) (fs : List Nat) (t : Nat) : List Nat := if mateOf ap fs t < fs.length then fs else fs ++ [t]
structure Firsts (rows : List (List Nat)) (k : Nat) (ends fs : List Nat) : Prop where
  lt : ∀ x ∈ fs, x < rows.length
  zero : fs[0]? = some 0
  apart : ∀ i j, i < fs.length → j < fs.length → Sim rows k ends (fs.getD i 0) (fs.getD j 0) → i = j
  got : ∀ x ∈ fs, ∃ w : List Nat, (∀ a ∈ w, a < k) ∧ led rows w 0 = x
section
variable {rows : List (List Nat)} {k : Nat} {ends : List Nat} {ap : Nat → Nat → Bool}
theorem getD_mem {fs : List Nat} {i : Nat} (h : i < fs.length) : fs.getD i 0 ∈ fs := List.mem_of_getElem? (getD_at h)
theorem getD_pre {fs fs' : List Nat} (h : fs <+: fs') {i : Nat} (hi : i < fs.length) : fs'.getD i 0 = fs.getD i 0 := by
  obtain ⟨r, rfl⟩ := h
  rw [List.getD_eq_getElem?_getD, List.getD_eq_getElem?_getD, List.getElem?_append_left hi]
theorem mate_lt (hap : ∀ p q, p < rows.length → q < rows.length → (ap p q = false ↔ Sim rows k ends p q)) {fs : List Nat} (F : Firsts rows k ends fs) {t : Nat} (ht : t < rows.length) (h : mateOf ap fs t < fs.length) : Sim rows k ends (fs.getD (mateOf ap fs t) 0) t := by
  have z := List.findIdx_getElem (p := fun s => !ap s t) (xs := fs) (w := h)
  have e : fs.getD (mateOf ap fs t) 0 = fs[mateOf ap fs t] := by rw [List.getD_eq_getElem?_getD, List.getElem?_eq_getElem h]; rfl
  rw [e]
  refine (hap _ _ (F.lt _ (List.getElem_mem h)) ht).mp ?_
  have z2 : (!ap (fs[mateOf ap fs t]'h) t) = true := z
  revert z2
  cases ap (fs[mateOf ap fs t]'h) t with
  | true => exact fun y => nomatch y
  | false => exact fun _ => rfl
theorem mate_some (hap : ∀ p q, p < rows.length → q < rows.length → (ap p q = false ↔ Sim rows k ends p q)) {fs : List Nat} (F : Firsts rows k ends fs) {t s : Nat} (ht : t < rows.length) (hs : s ∈ fs) (h : Sim rows k ends s t) : mateOf ap fs t < fs.length :=
  List.findIdx_lt_length_of_exists ⟨s, hs, by rw [(hap _ _ (F.lt s hs) ht).mpr h]; rfl⟩
theorem mate_uniq (hap : ∀ p q, p < rows.length → q < rows.length → (ap p q = false ↔ Sim rows k ends p q)) {fs : List Nat} (F : Firsts rows k ends fs) {t i : Nat} (ht : t < rows.length) (hi : i < fs.length) (h : Sim rows k ends (fs.getD i 0) t) : mateOf ap fs t = i := by
  have h1 := mate_some hap F ht (getD_mem hi) h
  exact F.apart _ _ h1 hi ((mate_lt hap F ht h1).trans h.symm)
theorem mate_pre (hap : ∀ p q, p < rows.length → q < rows.length → (ap p q = false ↔ Sim rows k ends p q)) {fs fs' : List Nat} (F : Firsts rows k ends fs) (F' : Firsts rows k ends fs') (h : fs <+: fs') {t : Nat} (ht : t < rows.length) (hm : mateOf ap fs t < fs.length) : mateOf ap fs' t = mateOf ap fs t :=
  mate_uniq hap F' ht (Nat.lt_of_lt_of_le hm h.length_le) (by rw [getD_pre h hm]; exact mate_lt hap F ht hm)
theorem add_first (hap : ∀ p q, p < rows.length → q < rows.length → (ap p q = false ↔ Sim rows k ends p q)) {fs : List Nat} (F : Firsts rows k ends fs) {t : Nat} (ht : t < rows.length) (hg : ∃ w : List Nat, (∀ a ∈ w, a < k) ∧ led rows w 0 = t) :
    Firsts rows k ends (addF ap fs t) ∧ fs <+: addF ap fs t ∧ mateOf ap (addF ap fs t) t < (addF ap fs t).length ∧ into (List.range fs.length) (mateOf ap (addF ap fs t) t) = List.range (addF ap fs t).length := by
  unfold addF
  by_cases c : mateOf ap fs t < fs.length
  · rw [if_pos c]
    exact ⟨F, List.prefix_rfl, c, into_in (List.mem_range.mpr c)⟩
  · rw [if_neg c]
    have no : ∀ i, i < fs.length → ¬ Sim rows k ends (fs.getD i 0) t := fun i hi h => c (mate_some hap F ht (getD_mem hi) h)
    have last : (fs ++ [t]).getD fs.length 0 = t := by rw [List.getD_eq_getElem?_getD, List.getElem?_append_right (Nat.le_refl _), Nat.sub_self]; rfl
    have pre : fs <+: fs ++ [t] := List.prefix_append _ _
    have ll : (fs ++ [t]).length = fs.length + 1 := by rw [List.length_append]; rfl
    have F' : Firsts rows k ends (fs ++ [t]) := by
      refine ⟨fun x hx => ?_, ?_, fun i j hi hj h => ?_, fun x hx => ?_⟩
      · rcases List.mem_append.mp hx with h | h
        · exact F.lt x h
        · rw [List.mem_singleton.mp h]; exact ht
      · have z := F.zero
        rw [List.getElem?_append_left (List.getElem?_eq_some_iff.mp z).1]
        exact z
      · rw [ll] at hi hj
        by_cases hi' : i < fs.length
        · rw [getD_pre pre hi'] at h
          by_cases hj' : j < fs.length
          · rw [getD_pre pre hj'] at h
            exact F.apart i j hi' hj' h
          · rw [show j = fs.length by omega, last] at h
            exact absurd h (no i hi')
        · rw [show i = fs.length by omega, last] at h
          by_cases hj' : j < fs.length
          · rw [getD_pre pre hj'] at h
            exact absurd h.symm (no j hj')
          · omega
      · rcases List.mem_append.mp hx with h | h
        · exact F.got x h
        · rw [List.mem_singleton.mp h]; exact hg
    have em : mateOf ap (fs ++ [t]) t = fs.length := mate_uniq hap F' ht (by rw [ll]; omega) (by rw [last]; exact .refl t)
    refine ⟨F', pre, by rw [em, ll]; omega, ?_⟩
    rw [em, ll, into_out (by rw [List.mem_range]; omega), List.range_succ]
theorem fold_firsts (hap : ∀ p q, p < rows.length → q < rows.length → (ap p q = false ↔ Sim rows k ends p q)) : ∀ (r fs : List Nat), Firsts rows k ends fs → (∀ t ∈ r, t < rows.length ∧ ∃ w : List Nat, (∀ a ∈ w, a < k) ∧ led rows w 0 = t) →
    Firsts rows k ends (r.foldl (addF ap) fs) ∧ fs <+: r.foldl (addF ap) fs ∧ (∀ t ∈ r, mateOf ap (r.foldl (addF ap) fs) t < (r.foldl (addF ap) fs).length) ∧ (r.map (mateOf ap (r.foldl (addF ap) fs))).foldl into (List.range fs.length) = List.range (r.foldl (addF ap) fs).length
  | [], fs, F, _ => ⟨F, List.prefix_rfl, fun t h => (nomatch h), rfl⟩
  | t :: r, fs, F, h => by
    obtain ⟨ht, hg⟩ := h t (List.mem_cons_self ..)
    obtain ⟨a1, a2, a3, a4⟩ := add_first hap F ht hg
    obtain ⟨b1, b2, b3, b4⟩ := fold_firsts hap r (addF ap fs t) a1 fun x hx => h x (List.mem_cons_of_mem _ hx)
    rw [List.foldl_cons]
    have e := mate_pre hap a1 b1 b2 ht a3
    refine ⟨b1, a2.trans b2, fun x hx => ?_, ?_⟩
    · rcases List.mem_cons.mp hx with rfl | hx
      · rw [e]
        exact Nat.lt_of_lt_of_le a3 b2.length_le
      · exact b3 x hx
    · rw [List.map_cons, List.foldl_cons, e, a4]
      exact b4
/-- so far: firsts, and the rows of some of them -/
structure Due (rows : List (List Nat)) (k : Nat) (ends : List Nat) (ap : Nat → Nat → Bool) (fs : List Nat) (found : List (List Nat)) : Prop where
  fst : Firsts rows k ends fs
  few : found.length ≤ fs.length
  each : ∀ j, j < found.length → found[j]? = some ((rowOf rows (fs.getD j 0)).map (mateOf ap fs)) ∧ ∀ t ∈ rowOf rows (fs.getD j 0), mateOf ap fs t < fs.length
  met : List.range fs.length = dd (0 :: found.flatten)
theorem due_start (sq : Square rows k) : Due rows k ends ap [0] [] :=
  ⟨⟨fun x hx => by rw [List.mem_singleton.mp hx]; exact sq.some, rfl, fun i j hi hj _ => by
      have h1 : ([0] : List Nat).length = 1 := rfl
      omega, fun x hx => ⟨[], fun a ha => (nomatch ha), (List.mem_singleton.mp hx).symm⟩⟩, Nat.zero_le _, fun j hj => (nomatch hj), rfl⟩
theorem row_got (sq : Square rows k) {fs : List Nat} (F : Firsts rows k ends fs) {i : Nat} (hi : i < fs.length) : ∀ t ∈ rowOf rows (fs.getD i 0), t < rows.length ∧ ∃ w : List Nat, (∀ a ∈ w, a < k) ∧ led rows w 0 = t := fun t ht => by
  have hs := F.lt _ (getD_mem hi)
  refine ⟨rowOf_mem sq.inn t ht, ?_⟩
  obtain ⟨w, h1, h2⟩ := F.got _ (getD_mem hi)
  obtain ⟨a, ha, ea⟩ := List.getElem_of_mem ht
  have hak : a < k := by rw [width sq hs] at ha; exact ha
  refine ⟨w ++ [a], app_lt h1 (one_lt hak), ?_⟩
  rw [led_one, h2]
  have z := next_at (a := a) hs fun r hr => by rw [sq.wide r hr]; exact hak
  rw [List.getElem?_eq_getElem ha, ea] at z
  exact (Option.some.inj z).symm
theorem due_next (hap : ∀ p q, p < rows.length → q < rows.length → (ap p q = false ↔ Sim rows k ends p q)) (sq : Square rows k) {fs : List Nat} {found : List (List Nat)} (D : Due rows k ends ap fs found) (h : found.length < fs.length) :
    Due rows k ends ap ((rowOf rows (fs.getD found.length 0)).foldl (addF ap) fs) (found ++ [(rowOf rows (fs.getD found.length 0)).map (mateOf ap ((rowOf rows (fs.getD found.length 0)).foldl (addF ap) fs))]) := by
  obtain ⟨b1, b2, b3, b4⟩ := fold_firsts hap (rowOf rows (fs.getD found.length 0)) fs D.fst (row_got sq D.fst h)
  generalize hfs' : (rowOf rows (fs.getD found.length 0)).foldl (addF ap) fs = fs' at b1 b2 b3 b4
  refine ⟨b1, ?_, fun j hj => ?_, ?_⟩
  · rw [List.length_append]
    exact Nat.le_trans h b2.length_le
  · rw [List.length_append] at hj
    have hj1 : j < found.length + 1 := hj
    by_cases c : j < found.length
    · obtain ⟨e1, e2⟩ := D.each j c
      rw [List.getElem?_append_left c, getD_pre b2 (by omega), e1]
      have hl : ∀ t ∈ rowOf rows (fs.getD j 0), t < rows.length := fun t ht => rowOf_mem sq.inn t ht
      refine ⟨congrArg some (List.map_congr_left fun t ht => (mate_pre hap D.fst b1 b2 (hl t ht) (e2 t ht)).symm), fun t ht => ?_⟩
      rw [mate_pre hap D.fst b1 b2 (hl t ht) (e2 t ht)]
      exact Nat.lt_of_lt_of_le (e2 t ht) b2.length_le
    · rw [show j = found.length by omega, List.getElem?_append_right (Nat.le_refl _), Nat.sub_self, getD_pre b2 h]
      exact ⟨rfl, b3⟩
  · rw [List.flatten_append, List.flatten_cons, List.flatten_nil, List.append_nil, ← List.cons_append, dd_app, ← D.met]
    exact b4.symm
/-- when all firsts have their rows, this is the least machine -/
theorem due_least (hap : ∀ p q, p < rows.length → q < rows.length → (ap p q = false ↔ Sim rows k ends p q)) (sq : Square rows k) {fs : List Nat} {found : List (List Nat)} (D : Due rows k ends ap fs found) (h : found.length = fs.length) :
    Least found k (endsAt fs ends) ∧ ∀ w : List Nat, (∀ a ∈ w, a < k) → (led found w 0 ∈ endsAt fs ends ↔ led rows w 0 ∈ ends) := by
  have F := D.fst
  have row : ∀ j, j < fs.length → rowOf found j = (rowOf rows (fs.getD j 0)).map (mateOf ap fs) := fun j hj => by
    unfold rowOf
    rw [List.getD_eq_getElem?_getD, (D.each j (by omega)).1]
    rfl
  have z0 : 0 < fs.length := (List.getElem?_eq_some_iff.mp F.zero).1
  have g0 : fs.getD 0 0 = 0 := by rw [List.getD_eq_getElem?_getD, F.zero]; rfl
  have mem : ∀ r ∈ found, ∃ j, j < fs.length ∧ r = (rowOf rows (fs.getD j 0)).map (mateOf ap fs) := fun r hr => by
    obtain ⟨j, hj, e⟩ := List.getElem_of_mem hr
    have e1 := (D.each j hj).1
    rw [List.getElem?_eq_getElem hj, e] at e1
    exact ⟨j, by omega, Option.some.inj e1⟩
  have nd : fs.length ≤ rows.length := by
    refine nodup_lt rows.length fs ?_ F.lt
    rw [List.nodup_iff_pairwise_ne, List.pairwise_iff_getElem]
    intro i j hi hj hij e
    have q : i = j := F.apart i j hi hj (by
      rw [List.getD_eq_getElem?_getD, List.getD_eq_getElem?_getD, List.getElem?_eq_getElem hi, List.getElem?_eq_getElem hj, Option.getD_some, Option.getD_some, e]
      exact .refl _)
    omega
  have sqf : Square found k := by
    refine ⟨by omega, Nat.le_trans (by omega) sq.few, fun r hr => ?_, sq.thin, fun r hr t ht => ?_⟩
    · obtain ⟨j, hj, rfl⟩ := mem r hr
      rw [List.length_map, width sq (F.lt _ (getD_mem hj))]
    · obtain ⟨j, hj, rfl⟩ := mem r hr
      obtain ⟨u, hu, rfl⟩ := List.mem_map.mp ht
      rw [h]
      exact (D.each j (by omega)).2 u hu
  -- where a word leads
  have go : ∀ (w : List Nat) (j s : Nat), (∀ a ∈ w, a < k) → j < fs.length → s < rows.length → Sim rows k ends (fs.getD j 0) s → led found w j < fs.length ∧ Sim rows k ends (fs.getD (led found w j) 0) (led rows w s) := by
    intro w
    induction w with
    | nil => exact fun j s _ hj _ hs => ⟨hj, hs⟩
    | cons a w ih =>
      intro j s hw hj hsn hs
      have ha := hw a (List.mem_cons_self ..)
      have hfj := F.lt _ (getD_mem hj)
      have e : nextOf found a j = mateOf ap fs (nextOf rows a (fs.getD j 0)) := map_next (row j hj) (by rw [width sq hfj]; exact ha)
      have hm := (D.each j (by omega)).2 _ (next_mem sq hfj ha)
      rw [led_cons, led_cons, e]
      have nl := next_lt sq ha hfj
      refine ih _ _ (fun b hb => hw b (List.mem_cons_of_mem _ hb)) hm (next_lt sq ha hsn) ?_
      exact (mate_lt hap F nl hm).trans (hs.next ha)
  have sim_end : ∀ {p q : Nat}, Sim rows k ends p q → (p ∈ ends ↔ q ∈ ends) := fun s => s [] fun a ha => nomatch ha
  have lang : ∀ (w : List Nat) (j s : Nat), (∀ a ∈ w, a < k) → j < fs.length → s < rows.length → Sim rows k ends (fs.getD j 0) s → (led found w j ∈ endsAt fs ends ↔ led rows w s ∈ ends) := fun w j s hw hj hsn hs => by
    obtain ⟨g1, g2⟩ := go w j s hw hj hsn hs
    rw [mem_endsAt g1]
    exact sim_end g2
  refine ⟨⟨sqf, ⟨?_, fun x hx => ?_⟩, fun p q hp hq s => ?_, ?_⟩, fun w hw => lang w 0 0 hw z0 sq.some (by rw [g0]; exact .refl 0)⟩
  · rw [h]
    have e := D.met
    have e2 : found.flatten = (List.range fs.length).flatMap (rowOf found) := by
      rw [List.flatMap_def]
      congr 1
      apply List.ext_getElem?
      intro i
      rw [List.getElem?_map]
      by_cases c : i < found.length
      · rw [rowOf_at c, List.getElem?_range (by omega)]
        rfl
      · rw [List.getElem?_eq_none (by omega), List.getElem?_eq_none (by rw [List.length_range]; omega)]
        rfl
    rw [e2] at e
    exact e
  · have hx' : x < fs.length := by rw [h] at hx; exact List.mem_range.mp hx
    obtain ⟨w, h1, h2⟩ := F.got _ (getD_mem hx')
    obtain ⟨g1, g2⟩ := go w 0 0 h1 z0 sq.some (by rw [g0]; exact .refl 0)
    rw [h2] at g2
    exact ⟨w, h1, F.apart _ _ g1 hx' g2⟩
  · rw [h] at hp hq
    refine F.apart p q hp hq fun w hw => ?_
    rw [← lang w p _ hw hp (F.lt _ (getD_mem hp)) (.refl _), ← lang w q _ hw hq (F.lt _ (getD_mem hq)) (.refl _)]
    exact s w hw
  · rw [h]
    unfold endsAt
    exact List.filter_congr fun x hx => decide_eq_decide.mpr ⟨fun c => List.mem_filter.mpr ⟨hx, decide_eq_true c⟩, fun c => of_decide_eq_true (List.mem_filter.mp c).2⟩
end
end Vf

set_option Elab.async false
set_option linter.all false
set_option maxRecDepth 100000
set_option maxHeartbeats 1000000
namespace Vf
open PySem PySem.Spec PyProof.Rows L2 L2.Vx
/-! ### a table of pairs that texts part; machines with other numbers -/
/-- a table that has the pairs whose answers differ, that no letter leads into from outside, and that has no pair which no text parts -/
theorem parted_sim {rows : List (List Nat)} {k : Nat} {ends : List Nat} (sq : Square rows k) {T : Nat → Nat → Prop} (h0 : ∀ p q, p < rows.length → q < rows.length → ¬ (p ∈ ends ↔ q ∈ ends) → T p q)
    (hc : ∀ p q a, p < rows.length → q < rows.length → a < k → T (nextOf rows a p) (nextOf rows a q) → T p q) (hs : ∀ p q, T p q → ¬ Sim rows k ends p q) {p q : Nat} (hp : p < rows.length) (hq : q < rows.length) : ¬ T p q ↔ Sim rows k ends p q := by
  refine ⟨fun n w => ?_, fun s t => hs p q t s⟩
  induction w generalizing p q with
  | nil => exact fun _ => Classical.byContradiction fun c => n (h0 p q hp hq c)
  | cons a w ih =>
    intro hw
    have ha := hw a (List.mem_cons_self ..)
    exact ih (next_lt sq ha hp) (next_lt sq ha hq) (fun t => n (hc p q a hp hq ha t)) fun b hb => hw b (List.mem_cons_of_mem _ hb)
/-- pairs whose answers differ are parted; so are pairs that a letter leads to such -/
theorem parted_ends {rows : List (List Nat)} {k : Nat} {ends : List Nat} {p q : Nat} (h : ¬ (p ∈ ends ↔ q ∈ ends)) : ¬ Sim rows k ends p q := fun s => h (s [] fun a ha => nomatch ha)
theorem parted_next {rows : List (List Nat)} {k : Nat} {ends : List Nat} {p q a : Nat} (ha : a < k) (h : ¬ Sim rows k ends (nextOf rows a p) (nextOf rows a q)) : ¬ Sim rows k ends p q := fun s => h (s.next ha)
/-- a machine whose states stand for those of another one -/
structure Stands (A B : List (List Nat)) (k : Nat) (eA eB : List Nat) (π : Nat → Nat) : Prop where
  zero : π 0 = 0
  lt : ∀ i, i < B.length → π i < A.length
  next : ∀ i a, i < B.length → a < k → π (nextOf B a i) = nextOf A a (π i)
  ends : ∀ i, i < B.length → (i ∈ eB ↔ π i ∈ eA)
theorem Stands.led {A B : List (List Nat)} {k : Nat} {eA eB : List Nat} {π : Nat → Nat} (S : Stands A B k eA eB π) (sq : Square B k) : ∀ (w : List Nat) (i : Nat), (∀ a ∈ w, a < k) → i < B.length → π (Vf.led B w i) = Vf.led A w (π i)
  | [], _, _, _ => rfl
  | a :: w, i, h, hi => by
    have ha := h a (List.mem_cons_self ..)
    rw [led_cons, led_cons, S.led sq w _ (fun b hb => h b (List.mem_cons_of_mem _ hb)) (next_lt sq ha hi), S.next i a hi ha]
theorem Stands.same {A B : List (List Nat)} {k : Nat} {eA eB : List Nat} {π : Nat → Nat} (S : Stands A B k eA eB π) (sq : Square B k) (w : List Nat) (hw : ∀ a ∈ w, a < k) : Vf.led B w 0 ∈ eB ↔ Vf.led A w 0 ∈ eA := by
  rw [S.ends _ (led_lt sq w 0 hw sq.some), S.led sq w 0 hw sq.some, S.zero]
theorem Stands.trans {A B D : List (List Nat)} {k : Nat} {eA eB eD : List Nat} {π ρ : Nat → Nat} (S : Stands A B k eA eB π) (R : Stands B D k eB eD ρ) : Stands A D k eA eD (fun i => π (ρ i)) :=
  ⟨by rw [R.zero, S.zero], fun i hi => S.lt _ (R.lt i hi), fun i a hi ha => by rw [R.next i a hi ha, S.next _ a (R.lt i hi) ha], fun i hi => (R.ends i hi).trans (S.ends _ (R.lt i hi))⟩
/-- two machines beside each other: the states of the second one come behind -/
def behind (A B : List (List Nat)) : List (List Nat) := A ++ B.map fun r => r.map fun t => t + A.length
theorem behind_len (A B : List (List Nat)) : (behind A B).length = A.length + B.length := by unfold behind; rw [List.length_append, List.length_map]
theorem behind_sq {A B : List (List Nat)} {k : Nat} (sA : Square A k) (sB : Square B k) (few : A.length + B.length ≤ 1000) : Square (behind A B) k := by
  refine ⟨by rw [behind_len]; have := sA.some; omega, by rw [behind_len]; exact few, fun r hr => ?_, sA.thin, fun r hr t ht => ?_⟩
  · rcases List.mem_append.mp hr with h | h
    · exact sA.wide r h
    · obtain ⟨r', h', rfl⟩ := List.mem_map.mp h
      rw [List.length_map]
      exact sB.wide r' h'
  · rw [behind_len]
    rcases List.mem_append.mp hr with h | h
    · have := sA.inn r h t ht
      omega
    · obtain ⟨r', h', rfl⟩ := List.mem_map.mp h
      obtain ⟨t', h2, rfl⟩ := List.mem_map.mp ht
      have := sB.inn r' h' t' h2
      omega
theorem behind_row {A B : List (List Nat)} {i : Nat} (hi : i < B.length) : rowOf (behind A B) (A.length + i) = (rowOf B i).map fun t => t + A.length := by
  unfold rowOf behind
  rw [List.getD_eq_getElem?_getD, List.getElem?_append_right (by omega), Nat.add_sub_cancel_left, List.getElem?_map, rowOf_at hi]
  rfl
theorem behind_row0 {A B : List (List Nat)} {i : Nat} (hi : i < A.length) : rowOf (behind A B) i = rowOf A i := by
  unfold rowOf behind
  rw [List.getD_eq_getElem?_getD, List.getElem?_append_left hi, rowOf_at hi]
  rfl
theorem led_behind0 {A B : List (List Nat)} {k : Nat} (sA : Square A k) : ∀ (w : List Nat) (i : Nat), (∀ a ∈ w, a < k) → i < A.length → led (behind A B) w i = led A w i
  | [], _, _, _ => rfl
  | a :: w, i, h, hi => by
    have ha := h a (List.mem_cons_self ..)
    have e : nextOf (behind A B) a i = nextOf A a i := by unfold nextOf; rw [behind_row0 hi]
    rw [led_cons, led_cons, e]
    exact led_behind0 sA w _ (fun b hb => h b (List.mem_cons_of_mem _ hb)) (next_lt sA ha hi)
theorem led_behind {A B : List (List Nat)} {k : Nat} (sB : Square B k) : ∀ (w : List Nat) (i : Nat), (∀ a ∈ w, a < k) → i < B.length → led (behind A B) w (A.length + i) = A.length + led B w i
  | [], _, _, _ => rfl
  | a :: w, i, h, hi => by
    have ha := h a (List.mem_cons_self ..)
    have e : nextOf (behind A B) a (A.length + i) = A.length + nextOf B a i := by
      rw [map_next (behind_row hi) (by rw [width sB hi]; exact ha), Nat.add_comm]
    rw [led_cons, led_cons, e]
    exact led_behind sB w _ (fun b hb => h b (List.mem_cons_of_mem _ hb)) (next_lt sB ha hi)
/-- no text parts the two first states exactly if both have the same language -/
theorem behind_sim {A B : List (List Nat)} {k : Nat} {eA eB : List Nat} (sA : Square A k) (sB : Square B k) (hA : ∀ x ∈ eA, x < A.length) :
    Sim (behind A B) k (eA ++ eB.map fun x => x + A.length) 0 A.length ↔ ∀ w : List Nat, (∀ a ∈ w, a < k) → (led A w 0 ∈ eA ↔ led B w 0 ∈ eB) := by
  have m1 : ∀ x, x < A.length → (x ∈ eA ++ (eB.map fun x => x + A.length) ↔ x ∈ eA) := fun x hx => by
    rw [List.mem_append]
    refine ⟨fun h => h.elim id fun h => ?_, .inl⟩
    obtain ⟨y, _, e⟩ := List.mem_map.mp h
    omega
  have m2 : ∀ x, A.length + x ∈ eA ++ (eB.map fun x => x + A.length) ↔ x ∈ eB := fun x => by
    rw [List.mem_append]
    refine ⟨fun h => h.elim (fun h => ?_) fun h => ?_, fun h => .inr (List.mem_map.mpr ⟨x, h, Nat.add_comm _ _⟩)⟩
    · have := hA _ h
      omega
    · obtain ⟨y, hy, e⟩ := List.mem_map.mp h
      rw [show x = y by omega]
      exact hy
  have each : ∀ w : List Nat, (∀ a ∈ w, a < k) → ((led (behind A B) w 0 ∈ eA ++ (eB.map fun x => x + A.length) ↔ led (behind A B) w A.length ∈ eA ++ (eB.map fun x => x + A.length)) ↔ (led A w 0 ∈ eA ↔ led B w 0 ∈ eB)) := fun w hw => by
    have e := led_behind (A := A) sB w 0 hw sB.some
    rw [Nat.add_zero] at e
    rw [led_behind0 sA w 0 hw sA.some, e, m1 _ (led_lt sA w 0 hw sA.some), m2]
  exact ⟨fun h w hw => (each w hw).mp (h w hw), fun h w hw => (each w hw).mpr (h w hw)⟩
end Vf

set_option Elab.async false
set_option linter.all false
set_option maxRecDepth 100000
set_option maxHeartbeats 1000000
namespace Vf
open PySem PySem.Spec PyProof.Rows L2 L2.Vx
/-! ### machines, as objects; machines mixed and blown -/
structure Mach (A : List (List Nat)) (k : Nat) (e : List Nat) : Prop where
  sq : Square A k
  lt : ∀ x ∈ e, x < A.length
  up : e.Pairwise (· < ·)
theorem Mach.nodup {A : List (List Nat)} {k : Nat} {e : List Nat} (M : Mach A k e) : e.Nodup := M.up.imp fun h => Nat.ne_of_lt h
theorem mix_len (A : List (List Nat)) (o : List Nat) : (renum A o).length = o.length := List.length_map _
section
variable {A : List (List Nat)} {k : Nat} {eA o eB : List Nat}
theorem idx_of {o : List Nat} (nd : o.Nodup) {i : Nat} (hi : i < o.length) : o.idxOf (o.getD i 0) = i := by
  have e : o.getD i 0 = o[i] := by rw [List.getD_eq_getElem?_getD, List.getElem?_eq_getElem hi]; rfl
  rw [e]
  have hm : o[i] ∈ o := List.getElem_mem hi
  have hl := List.idxOf_lt_length_of_mem hm
  exact (List.getElem_inj nd).mp (List.getElem_idxOf hl)
theorem mix_stands (M : Mach A k eA) (p : o.Perm (List.range A.length)) (z : o[0]? = some 0) (hB : eB.Perm (eA.map fun x => o.idxOf x)) : Stands A (renum A o) k eA eB (fun i => o.getD i 0) := by
  have hl : o.length = A.length := by rw [p.length_eq, List.length_range]
  have nd : o.Nodup := p.nodup_iff.mpr List.nodup_range
  have mem : ∀ {x}, x < A.length → x ∈ o := fun h => p.mem_iff.mpr (List.mem_range.mpr h)
  refine ⟨?_, fun i hi => ?_, fun i a hi ha => ?_, fun i hi => ?_⟩
  · show o.getD 0 0 = 0
    rw [List.getD_eq_getElem?_getD, z]; rfl
  · rw [mix_len] at hi
    exact List.mem_range.mp (p.mem_iff.mp (getD_mem hi))
  · rw [mix_len] at hi
    have hs : o.getD i 0 < A.length := List.mem_range.mp (p.mem_iff.mp (getD_mem hi))
    have e : nextOf (renum A o) a i = o.idxOf (nextOf A a (o.getD i 0)) := map_next (renum_row hi) (by rw [width M.sq hs]; exact ha)
    show o.getD (nextOf (renum A o) a i) 0 = _
    rw [e, idx_get (mem (next_lt M.sq ha hs))]
  · rw [mix_len] at hi
    rw [hB.mem_iff, List.mem_map]
    constructor
    · rintro ⟨x, hx, rfl⟩
      show o.getD (o.idxOf x) 0 ∈ eA
      rw [idx_get (mem (M.lt x hx))]
      exact hx
    · intro h
      exact ⟨_, h, idx_of nd hi⟩
theorem mix_mach (M : Mach A k eA) (p : o.Perm (List.range A.length)) (hB : eB.Perm (eA.map fun x => o.idxOf x)) (up : eB.Pairwise (· ≤ ·)) : Mach (renum A o) k eB := by
  have hl : o.length = A.length := by rw [p.length_eq, List.length_range]
  have nd : o.Nodup := p.nodup_iff.mpr List.nodup_range
  have mem : ∀ {x}, x < A.length → x ∈ o := fun h => p.mem_iff.mpr (List.mem_range.mpr h)
  have s0 := M.sq.some
  refine ⟨⟨by rw [mix_len]; omega, by rw [mix_len, hl]; exact M.sq.few, fun r hr => ?_, M.sq.thin, fun r hr t ht => ?_⟩, fun x hx => ?_, ?_⟩
  · obtain ⟨s, hs, rfl⟩ := List.mem_map.mp hr
    rw [List.length_map]
    exact width M.sq (List.mem_range.mp (p.mem_iff.mp hs))
  · obtain ⟨s, hs, rfl⟩ := List.mem_map.mp hr
    obtain ⟨u, hu, rfl⟩ := List.mem_map.mp ht
    rw [mix_len]
    exact List.idxOf_lt_length_of_mem (mem (rowOf_mem M.sq.inn u hu))
  · obtain ⟨u, hu, rfl⟩ := List.mem_map.mp (hB.mem_iff.mp hx)
    rw [mix_len]
    exact List.idxOf_lt_length_of_mem (mem (M.lt u hu))
  · have nB : eB.Nodup := by
      rw [hB.nodup_iff]
      refine List.pairwise_map.mpr (List.Pairwise.imp_of_mem (fun {x y} hx hy ne e => ne ?_) M.nodup)
      rw [← idx_get (mem (M.lt x hx)), ← idx_get (mem (M.lt y hy)), e]
    exact (List.pairwise_and_iff.mpr ⟨up, nB⟩).imp fun h => Nat.lt_of_le_of_ne h.1 h.2
/-- a machine whose states stand for others, each at least once -/
structure Blown (A : List (List Nat)) (own : List Nat) (B : List (List Nat)) : Prop where
  zero : own[0]? = some 0
  lt : ∀ x ∈ own, x < A.length
  len : B.length = own.length
  row : ∀ i, i < own.length → (rowOf B i).map (fun t => own.getD t 0) = rowOf A (own.getD i 0) ∧ ∀ t ∈ rowOf B i, t < own.length
theorem endsAt_mem {i : Nat} (hi : i < o.length) : i ∈ endsAt o eA ↔ o.getD i 0 ∈ eA := mem_endsAt hi
theorem endsAt_up (o e : List Nat) : (endsAt o e).Pairwise (· < ·) := List.Pairwise.filter _ List.pairwise_lt_range
theorem endsAt_lt {o e : List Nat} : ∀ x ∈ endsAt o e, x < o.length := fun x hx => List.mem_range.mp (List.mem_filter.mp hx).1
theorem blown_sq {own : List Nat} {B : List (List Nat)} (sq : Square A k) (W : Blown A own B) (few : own.length ≤ 1000) : Square B k := by
  have z := (List.getElem?_eq_some_iff.mp W.zero).1
  have at_ : ∀ r ∈ B, ∃ i, i < own.length ∧ rowOf B i = r := fun r hr => by
    obtain ⟨i, hi, e⟩ := List.getElem_of_mem hr
    have e2 := rowOf_at hi
    rw [List.getElem?_eq_getElem hi, e] at e2
    exact ⟨i, by rw [← W.len]; exact hi, (Option.some.inj e2).symm⟩
  refine ⟨by rw [W.len]; omega, by rw [W.len]; exact few, fun r hr => ?_, sq.thin, fun r hr t ht => ?_⟩
  · obtain ⟨i, hi, rfl⟩ := at_ r hr
    have e := congrArg List.length (W.row i hi).1
    rw [List.length_map, width sq (W.lt _ (getD_mem hi))] at e
    exact e
  · obtain ⟨i, hi, rfl⟩ := at_ r hr
    rw [W.len]
    exact (W.row i hi).2 t ht
theorem blown_stands {own : List Nat} {B : List (List Nat)} (sq : Square A k) (W : Blown A own B) (few : own.length ≤ 1000) : Stands A B k eA (endsAt own eA) (fun i => own.getD i 0) := by
  have sB := blown_sq sq W few
  refine ⟨?_, fun i hi => ?_, fun i a hi ha => ?_, fun i hi => ?_⟩
  · show own.getD 0 0 = 0
    rw [List.getD_eq_getElem?_getD, W.zero]; rfl
  · rw [W.len] at hi
    exact W.lt _ (getD_mem hi)
  · have w := width sB hi
    rw [W.len] at hi
    exact (map_next (W.row i hi).1.symm (by rw [w]; exact ha)).symm
  · rw [W.len] at hi
    exact mem_endsAt hi
theorem blown_mach {own : List Nat} {B : List (List Nat)} (sq : Square A k) (W : Blown A own B) (few : own.length ≤ 1000) : Mach B k (endsAt own eA) :=
  ⟨blown_sq sq W few, fun x hx => by rw [W.len]; exact endsAt_lt x hx, endsAt_up _ _⟩
end
/-! ### objects -/
def TK (H H' : Hp) : Prop := ∀ b ys, H b = some (.tup ys) → H' b = some (.tup ys)
theorem TK.refl (H : Hp) : TK H H := fun _ _ h => h
theorem TK.trans {H H1 H2 : Hp} (a : TK H H1) (b : TK H1 H2) : TK H H2 := fun c ys h => b c ys (a c ys h)
theorem tk_same {H H' : Hp} (s : Same H H') : TK H H' := fun b ys e => s b _ e
theorem tk_new {H : Hp} {p : Addr} (h : H p = none) (o : HO) : TK H (upd H p o) := tk_same (same_new h o)
theorem tk_put {H : Hp} {D : Addr} {l : List V} (e : H D = some (.lst l)) (o : HO) : TK H (upd H D o) := fun b ys h => by
  rw [upd_ne (fun z => by rw [z, e] at h; exact nomatch (Option.some.inj h))]
  exact h
theorem tk_dT {H : Hp} {D : Addr} {l : List (List Key × V)} (e : H D = some (.dT l)) (o : HO) : TK H (upd H D o) := fun b ys h => by
  rw [upd_ne (fun z => by rw [z, e] at h; exact nomatch (Option.some.inj h))]
  exact h
theorem tk_keeps {H H' : Hp} {d g : Addr} (hD : DeckAt H d g) (k : Keeps d g H H') : TK H H' := fun b ys h => by
  obtain ⟨ns, m, n, h1, h2, _⟩ := hD
  exact k b _ (fun z => by rw [z, h1] at h; exact nomatch (Option.some.inj h)) (fun z => by rw [z, h2] at h; exact nomatch (Option.some.inj h)) h
theorem NatsAt.tk {H H' : Hp} {v : V} {ns : List Nat} (h : NatsAt H v ns) (s : TK H H') : NatsAt H' v ns := h.imp fun a z => ⟨z.1, s _ _ z.2⟩
theorem MRowsAt.tk {H H' : Hp} {v : V} {rows : List (List Nat)} (h : MRowsAt H v rows) (s : TK H H') : MRowsAt H' v rows := by
  obtain ⟨a, bs, h1, h2, h3, h4⟩ := h
  exact ⟨a, bs, h1, s _ _ h2, h3, fun i b r e1 e2 => (h4 i b r e1 e2).tk s⟩
def MachAt (H : Hp) (v : V) (A : List (List Nat)) (e : List Nat) : Prop := ∃ (t : Addr) (vr ve : V), v = .ref t ∧ H t = some (.tup [vr, ve]) ∧ MRowsAt H vr A ∧ NatsAt H ve e
theorem MachAt.tk {H H' : Hp} {v : V} {A : List (List Nat)} {e : List Nat} (h : MachAt H v A e) (s : TK H H') : MachAt H' v A e := by
  obtain ⟨t, vr, ve, h1, h2, h3, h4⟩ := h
  exact ⟨t, vr, ve, h1, s _ _ h2, h3.tk s, h4.tk s⟩
/-- a list of tuples of numbers, that grows -/
def NRows (H : Hp) (bs : List V) (rows : List (List Nat)) : Prop := bs.length = rows.length ∧ ∀ (i : Nat) (b : V) (r : List Nat), bs[i]? = some b → rows[i]? = some r → NatsAt H b r
theorem NRows.nil (H : Hp) : NRows H [] [] := ⟨rfl, fun i b r e => by simp at e⟩
theorem NRows.tk {H H' : Hp} {bs : List V} {rows : List (List Nat)} (h : NRows H bs rows) (s : TK H H') : NRows H' bs rows := ⟨h.1, fun i b r e1 e2 => (h.2 i b r e1 e2).tk s⟩
theorem NRows.snoc {H : Hp} {bs : List V} {rows : List (List Nat)} {v : V} {r : List Nat} (h : NRows H bs rows) (hv : NatsAt H v r) : NRows H (bs ++ [v]) (rows ++ [r]) := by
  refine ⟨by rw [List.length_append, List.length_append, h.1] <;> rfl, fun i b r' e1 e2 => ?_⟩
  rcases Nat.lt_or_ge i rows.length with c | c
  · rw [List.getElem?_append_left (by rw [h.1]; exact c)] at e1
    rw [List.getElem?_append_left c] at e2
    exact h.2 i b r' e1 e2
  · have hi : i = rows.length := by
      have := (List.getElem?_eq_some_iff.mp e2).1
      rw [List.length_append] at this
      have : i < rows.length + 1 := this
      omega
    rw [List.getElem?_append_right (by rw [h.1]; exact c), h.1, hi, Nat.sub_self] at e1
    rw [List.getElem?_append_right c, hi, Nat.sub_self] at e2
    obtain rfl := Option.some.inj e1
    obtain rfl := Option.some.inj e2
    exact hv
theorem NRows.tup {H : Hp} {a : Addr} {bs : List V} {rows : List (List Nat)} (h : NRows H bs rows) (e : H a = some (.tup bs)) : MRowsAt H (.ref a) rows := ⟨a, bs, rfl, e, h.1, h.2⟩
theorem MRowsAt.at_ {H : Hp} {v : V} {A : List (List Nat)} (h : MRowsAt H v A) : ∃ (a : Addr) (bs : List V), v = .ref a ∧ H a = some (.tup bs) ∧ NRows H bs A := by
  obtain ⟨a, bs, h1, h2, h3, h4⟩ := h
  exact ⟨a, bs, h1, h2, h3, h4⟩
theorem NRows.get {H : Hp} {bs : List V} {A : List (List Nat)} (h : NRows H bs A) {i : Nat} (hi : i < A.length) : ∃ b : Addr, bs[i]? = some (.ref b) ∧ H b = some (.tup ((rowOf A i).map nI)) := by
  have hb : i < bs.length := by rw [h.1]; exact hi
  obtain ⟨b, e1, e2⟩ := h.2 i _ _ (List.getElem?_eq_getElem hb) (rowOf_at hi)
  exact ⟨b, by rw [List.getElem?_eq_getElem hb, e1], e2⟩
end Vf

set_option Elab.async false
set_option linter.all false
set_option maxRecDepth 100000
set_option maxHeartbeats 2000000
namespace Vf
open PySem PySem.Spec PyProof.Rows L2 L2.Vx Vs
/-! ### languages made, by their machines (the same rows as in x5) -/
theorem asc_of : ∀ {xs : List Nat}, xs.Pairwise (· < ·) → ascN xs = true
  | [], _ => rfl
  | [a], _ => rfl
  | a :: b :: r, h => by
    have ih := asc_of (List.pairwise_cons.mp h).2
    have e : ascN (a :: b :: r) = (decide (a < b) && ascN (b :: r)) := by
      unfold ascN
      rw [show (a :: b :: r).length - 1 = (b :: r).length - 1 + 1 from rfl, List.range_succ_eq_map, List.map_cons, List.all_cons, List.map_map]
      rfl
    rw [e, ih, Bool.and_true]
    exact decide_eq_true ((List.pairwise_cons.mp h).1 b (List.mem_cons_self ..))
/-- a language is made -/
theorem lang_make {C : Addr} {H : Hp} {R : VK} {E : XK} {a : Str} {v1 v2 : V} {A : List (List Nat)} {e : List Nat} (M : Mach A a.length e) (hl : letB a = true) (h8 : ∀ c ∈ cp a, c < 128) (hR : MRowsAt H v1 A) (hE : NatsAt H v2 e)
    {x dx : Addr} (hx : H x = none) (hdx : H dx = none) (hne : dx ≠ x)
    (k : ∀ (B : List (List Nat)) (eB : List Nat) (H' : Hp), Same H H' → LangL C H' x a B eB → Least B a.length eB → (∀ w : List Nat, (∀ i ∈ w, i < a.length) → (led B w 0 ∈ eB ↔ led A w 0 ∈ e)) → R .non H') :
    spLMake C (.ref x :: ([.str a, v1, v2] ++ [])) (upd (upd H dx (.own x)) x (.ins C dx [])) R E := by
  have t1 : TK H (upd (upd H dx (.own x)) x (.ins C dx [])) := fun b ys h => by
    rw [upd_ne (ne_of_none h hx), upd_ne (ne_of_none h hdx)]
    exact h
  have el := nodup_lt _ _ M.nodup M.lt
  have few := M.sq.few
  refine ⟨x, dx, a, v1, v2, A, e, rfl, upd_same, hl, h8, hR.tk t1, hE.tk t1, M.sq, M.lt, by omega, asc_of M.up, fun B eB H' hL L1 L2 kp => k B eB H' (fun b o h => ?_) hL L1 L2⟩
  have nb := ne_of_none h hx
  refine kp b o nb ?_
  rw [upd_ne nb, upd_ne (ne_of_none h hdx)]
  exact h
theorem lang_eq {k : Nat} {A A' B B' : List (List Nat)} {e e' eB eB' : List Nat} (h1 : Least B k eB) (h2 : Least B' k eB') (l1 : ∀ w : List Nat, (∀ i ∈ w, i < k) → (led B w 0 ∈ eB ↔ led A w 0 ∈ e)) (l2 : ∀ w : List Nat, (∀ i ∈ w, i < k) → (led B' w 0 ∈ eB' ↔ led A' w 0 ∈ e'))
    (s : ∀ w : List Nat, (∀ i ∈ w, i < k) → (led A w 0 ∈ e ↔ led A' w 0 ∈ e')) : B = B' ∧ eB = eB' :=
  least_uniq h1 h2 fun w hw => ((l1 w hw).trans (s w hw)).trans (l2 w hw).symm
theorem least_mach {B : List (List Nat)} {k : Nat} {eB : List Nat} (h : Least B k eB) : Mach B k eB := by
  have z := h.ends
  refine ⟨h.sq, fun x hx => ?_, ?_⟩
  · rw [z] at hx
    exact List.mem_range.mp (List.mem_filter.mp hx).1
  · rw [z]
    exact List.Pairwise.filter _ List.pairwise_lt_range
end Vf

set_option Elab.async false
set_option linter.all false
set_option maxRecDepth 100000
set_option maxHeartbeats 4000000
namespace Vx
open PySem PySem.W PySem.Calls PyProof.Rows
section
variable {M : Model} {A : Around} {E : Value → Shared → Prop} {h : Heap} {g : Array GenState} {d : Drawn} {t : Nat} {os : OsState}
variable {nm q : Str} {C N : Addr} {bs bm bmB : List Value} {hdct : Bool} {sn : List Str} {sub : List Value} {ab : Bool} {col : Option Bool} {dd : Option Addr} {k0 k1 k2 k3 k5 : Option Value} {B newId initId : String}
/-- what __new__ of an exception class checks: any values, any keywords -/
theorem check_newK (FB : ExcBaseFacts B newId initId bmB) (hT : ∀ X : String, bm.contains (.type X) = bmB.contains (.type X)) {rest : List Value} {kw : List (Str × Value)} {Q : Unit → Shared → Prop}
    (hC : h.get? C = some (excClassObj nm q C N bs bm hdct sn sub ab col dd k0 k1 k2 k3 k5 newId)) (hq : Q () ⟨h, g, d, t, os⟩) : wpAny M A (checkBuiltinCall newId ⟨.ref C :: rest, kw⟩) Q E ⟨h, g, d, t, os⟩ := by
  have hB : (Value.ref C :: bm).contains (.type B) = true := by
    rw [List.contains_cons, hT, FB.hasB]
    exact Bool.or_true _
  have hst := FB.noStar
  simp only [checkBuiltinCall, FB.newKind, FB.newSplit, FB.newRow]
  repeat (first | refine wpAny_loadPart_at hC ?_ | (refine wpAny_isSubtype_exc hC ?_; rw [hB]) | refine wpAny_staticBase_exc hC ?_ | refine wpAny_madeBy_exc hC ?_ | simp only [bne_self_eq_false, Bool.false_eq_true, if_false] | wp_step)
  exact hq
end
section
variable {prog : Program} {w : World} {A : Around} {E : Value → Shared → Prop} {R : Result → Shared → Prop} {h : Heap} {g : Array GenState} {d : Drawn} {t : Nat} {os : OsState}
variable {nm q : Str} {C N : Addr} {bs bm bmB : List Value} {hdct : Bool} {sn : List Str} {sub : List Value} {ab : Bool} {col : Option Bool} {dd : Option Addr} {k0 k1 k2 k3 k5 : Option Value} {B newId initId : String}
/-- the heap behind __new__ -/
abbrev madeH (h : Heap) (rest : List Value) (C : Addr) : Heap := (h.push (kdv_tup rest)).push (PySem.HandSPX.excO C h.objs.size)
theorem new_ownK (FB : ExcBaseFacts B newId initId bmB) (hT : ∀ X : String, bm.contains (.type X) = bmB.contains (.type X)) {rest : List Value} {kw : List (Str × Value)}
    (hC : h.get? C = some (excClassObj nm q C N bs bm hdct sn sub ab col dd k0 k1 k2 k3 k5 newId)) (hl : rest.length ≤ sizeLine)
    (hq : R (.ok (.ret (.ref (h.objs.size + 1)))) ⟨madeH h rest C, g, d, t, os⟩) :
    codeAny (model prog w) A (.builtin newId ⟨.ref C :: rest, kw⟩) R ⟨h, g, d, t, os⟩ := by
  have he := FB.ends
  have hB : (Value.ref C :: bm).contains (.type B) = true := by
    rw [List.contains_cons, hT, FB.hasB]
    exact Bool.or_true _
  have hA : (Value.ref C :: bm).contains (.type "AttributeError") = false := by
    rw [List.contains_cons, hT, FB.noAttr] <;> rfl
  have hN : (Value.ref C :: bm).contains (.type "NameError") = false := by
    rw [List.contains_cons, hT, FB.noName] <;> rfl
  refine codeAny_builtinAt FB.entry ?_
  unfold Builtin.«BaseException.__new__»; refine PySem.wpAt_bind ?_
  show PySem.wpAt _ _ _ (stack >>= _) _ _ _
  refine PySem.wpAt_bind (PySem.wpAt_stack fun p below => PySem.wpAt_of_wpAny ?_)
  wp_walk
  refine PySem.wpAt_of_wpAny ?_
  rw [FB.owner]
  repeat (first | with_reducible refine wpAny_madeHere_exc FB.canon hC ?_ | with_reducible refine wpAny_loadPart_at hC ?_ | (with_reducible refine wpAny_isSubtype_exc hC ?_; first | rw [hB] | rw [hA] | rw [hN]) | wp_step)
  show R _ _
  rw [Heap.size_push]
  exact hq
theorem type_callK (FB : ExcBaseFacts B newId initId bmB) (hT : ∀ X : String, bm.contains (.type X) = bmB.contains (.type X)) {rest : List Value} {kw : List (Str × Value)} {fI : Addr} {Q : Fin → Shared → Prop}
    (hC : h.get? C = some (excClassObj nm q C N bs bm hdct sn sub ab col dd k0 k1 k2 k3 k5 newId)) (hl : rest.length ≤ sizeLine)
    (hi : Looks (model prog w) h (typeLookup (.ref C) "__init__") (some (.ref fI))) (hb : ∀ self, Looks (model prog w) h (bindSpecial (.ref fI) self) (.ref fI, [self]))
    (hq : codeAny (model prog w) A (.call (.ref fI) ⟨.ref (h.objs.size + 1) :: rest, kw⟩)
      (fun r s' => match r with | .ok (.ret v) => v = .none ∧ Q (.done (.ret (.ref (h.objs.size + 1)))) s' | .ok _ => False | .error e => E e s') ⟨madeH h rest C, g, d, t, os⟩) :
    wpAny (model prog w) A (Builtin.«type.__call__» ⟨.ref C :: rest, kw⟩) Q E ⟨h, g, d, t, os⟩ := by
  repeat (first | with_reducible refine wpAny_loadPart_at hC ?_ | with_reducible refine wpAny_madeBy_exc hC ?_ | wp_step)
  refine codeAny_call_builtin_code (Code.quiet_builtin _ FB.quiet) (check_newK FB hT hC ?_)
  refine new_ownK FB hT hC hl ?_
  show wpAny _ _ _ _ _ _
  have k : ∀ b o, h.get? b = some o → (madeH h rest C).get? b = some o := fun b o e => Heap.get?_push_of_some _ (Heap.get?_push_of_some _ e)
  have hC1 := k _ _ hC
  have hg : (madeH h rest C).get? (h.objs.size + 1) = some (PySem.HandSPX.excO C h.objs.size) := by heap_get
  have hcC : (Value.ref C :: bm).contains (.ref C) = true := by simp
  have i1 := hi.keeps k
  have b1 := (hb (.ref (h.objs.size + 1))).keeps k
  unfold isInstance
  repeat (first | with_reducible refine wpAny_loadPart_at hg ?_ | (with_reducible refine wpAny_isSubtype_exc hC1 ?_; rw [hcC]) | wp_step)
  show wpAny _ _ (typeLookup (.ref C) _) _ _ _
  refine i1.at ?_
  refine wpAny_holding (wpAny_bind (b1.at ?_))
  refine wpAny_bind (wpAny_call (codeAny_mono hq fun r s' z => ?_))
  rcases r with e | (v | _ | _ | _) <;> first | exact z | exact z.elim | skip
  obtain ⟨rfl, z⟩ := z
  first
    | exact wpAny_pure (wpAny_pure z)
    | (wp_walk; exact z)
theorem call_ownK (FB : ExcBaseFacts B newId initId bmB) (hT : ∀ X : String, bm.contains (.type X) = bmB.contains (.type X)) {rest : List Value} {kw : List (Str × Value)} {fI : Addr}
    (hC : h.get? C = some (excClassObj nm q C N bs bm hdct sn sub ab col dd k0 k1 k2 k3 k5 newId)) (hl : rest.length ≤ sizeLine)
    (hi : Looks (model prog w) h (typeLookup (.ref C) "__init__") (some (.ref fI))) (hb : ∀ self, Looks (model prog w) h (bindSpecial (.ref fI) self) (.ref fI, [self]))
    (hq : codeAny (model prog w) (A.under (.builtin "type.__call__" ⟨.ref C :: rest, kw⟩)) (.call (.ref fI) ⟨.ref (h.objs.size + 1) :: rest, kw⟩) (InitBack (h.objs.size + 1) R) ⟨madeH h rest C, g, d, t, os⟩) :
    codeAny (model prog w) A (.call (.ref C) ⟨rest, kw⟩) R ⟨h, g, d, t, os⟩ := by
  have f1 := tc_lookup
  have f2 := tc_bind (.ref C)
  have f3 := tc_sub
  have hTy : (⟨h, g, d, t, os⟩ : Shared).TypeIs (.ref C) "type" := ⟨_, hC, rfl⟩
  have ck : ∀ {A' : Around} {E' : Value → Shared → Prop} {Q : Unit → Shared → Prop}, Q () ⟨h, g, d, t, os⟩ → wpAny (model prog w) A' (checkBuiltinCall "type.__call__" ⟨.ref C :: rest, kw⟩) Q E' ⟨h, g, d, t, os⟩ := by
    intro A' E' Q hq
    simp only [checkBuiltinCall, tc_kind, tc_split]
    repeat (any_goals (first | assumption | with_reducible refine wpAny_loadPart_at hC ?_ | with_reducible refine wpAny_onRaise ?_ | with_reducible refine wpAny_map ?_ | wp_step))
  refine codeAny_of_tree ?_
  show wpAny _ _ (callAny (.ref C) _) _ _ _
  repeat (any_goals (first | assumption | with_reducible refine wpAny_loadPart_at hC ?_ | wp_step))
  refine ⟨rfl, ?_⟩
  refine codeAny_call_builtin_at (Code.quiet_builtin _ (by decide +kernel)) entry_typeCall (ck (type_callK FB hT hC hl hi hb ?_))
  refine codeAny_mono hq fun r s' z => ?_
  rcases r with e | (v | _ | _ | _) <;> exact z
end
end Vx

set_option Elab.async false
set_option linter.all false
set_option maxRecDepth 100000
set_option maxHeartbeats 4000000
namespace L2
namespace Vx
open PySem PySem.Spec PyProof.Rows _root_.Vx
abbrev exTail : List Value := [.type "Exception", .type "BaseException", .type "object"]
theorem exTail_ne {l : List Value} (e : PySem.W.excTail exTail l = true) : l.isEmpty = false := by
  cases l with
  | nil => exact absurd e (by decide)
  | cons _ _ => rfl
section
open PySem.W PySem.Calls Builtin Builtin.ObjectAttr
variable {prog : Program} {w : World} {A : Around} {E : Value → Shared → Prop} {R : Result → Shared → Prop} {hp : Heap} {g : Array GenState} {d : Drawn} {t : Nat} {os : OsState}
/-- self.name = v on an exception of an own class over Exception that has no dict yet -/
theorem osaE {K : W.Frag} {name : Str} {tk : Tok} {v : Value} {x C : Addr} {fv : Array Value} {cd : ClassData}
    (X : K.In hp) (hx : hp.get? x = some { cls := .ref C, data := .fields fv }) (hcd : W.clsIn K C = some cd) (hm : excTail exTail cd.mro = true) (hh : cd.hasDict = true) (ha : W.findIn K (.ref C) name = some none)
    (hq : ∀ h' tk' dx, (∀ b o, b ≠ x → hp.get? b = some o → h'.get? b = some o) → hp.objs.size ≤ dx → dx ≠ x → h'.get? x = some { cls := .ref C, dict := some dx, data := .fields fv } →
      h'.Ns1 dx (fun y => if y = name then some v else none) → R (.ok (.ret .none)) ⟨h', g, d, tk', os⟩) :
    codeAny (model prog w) A (.call (.builtin "object.__setattr__") ⟨[.ref x, .str name tk, v], []⟩) R ⟨hp, g, d, t, os⟩ := by
  have SF := F.store_object
  have I : W.InstAt hp x { cls := .ref C, data := .fields fv } C none := ⟨hx, rfl, rfl, trivial⟩
  have ne := exTail_ne hm
  have hob : cd.mro.contains (.type "object") = true := (excTail_contains "object" _ hm).trans (by decide +kernel)
  have hxs : x ≠ hp.objs.size := Nat.ne_of_lt (Heap.lt_size hx)
  have hmi : W.mroIn K C (.type "object") = some true := by
    unfold W.mroIn
    rw [hcd, Option.bind_some, if_neg (by rw [ne]; decide), hob]
  have sub : W.Looks (model prog w) hp (isInstance (.ref x) (.type "object")) true := I.type.andThen (W.looks_mroIn X hmi)
  refine codeAny_call_builtin SF.slot.plain SF.entry (@W.check_slot (model prog w) _ _ ⟨hp, g, d, t, os⟩ "object.__setattr__" "object" "__setattr__" (.ref x) [.str name tk, v] [] _ SF.kind SF.split sub (SF.args (.ref x) (.str name tk) v) ?_)
  have hmr : W.Looks (model prog w) hp (mroOf (.ref C)) cd.mro := (W.looks_clsIn X hcd).andThen .now
  have L3 : W.Looks (model prog w) hp (storeTaker? none) none := .now
  have hcls : W.Looks (model prog w) hp (classData C) cd := W.looks_clsIn X hcd
  rw [W.osa_eq, refuse_eq]
  refine wpAny_bind (wpAny_bind (I.type.at (wpAny_bind (hmr.at ?_))))
  rw [excTail_pass _ (F.store_Exception.passes _) _ hm]
  refine wpAny_pure (wpAny_bind (I.type.at (wpAny_bind ((W.looks_findIn X ha).at (wpAny_bind (L3.at ?_))))))
  show wpAny _ _ (storeInOwnDict (.ref x) (.ref C) (.str name tk) name v false) _ _ _
  obtain ⟨nm, bs, mro, ns, qn, hd, sn, sb, ab, col, del⟩ := cd
  dsimp only at hh
  subst hh
  unfold storeInOwnDict ownDictForStores
  repeat (first | with_reducible refine PySem.HandSPX.store_in_new ?_ ?_ | with_reducible refine wpAny_loadPart_at hx ?_ | with_reducible refine hcls.at ?_ | wp_step)
  · exact ⟨_, #[], _, (Heap.get?_update_ne _ _ _ _ hxs.symm).trans (Heap.get?_push_at rfl rfl), rfl, fun e he => absurd he (by simp), fun _ => rfl⟩
  · intro h' tk' hn' hs
    have hx1 : (hp.push { cls := .type "dict", data := .dict #[] }).get? x = some { cls := .ref C, data := .fields fv } := Heap.get?_push_of_some _ hx
    refine hq h' tk' hp.objs.size (fun b o hb ho => ?_) (Nat.le_refl _) hxs.symm ?_ hn'
    · exact (hs.2 b (Nat.ne_of_lt (Heap.lt_size ho))).trans ((Heap.get?_update_ne _ _ _ _ hb).trans (Heap.get?_push_of_some _ ho))
    · exact (hs.2 x hxs).trans (Heap.get?_update_self _ hx1 rfl)
end
/-- what the written part says of an own exception class over Exception -/
structure OexE (K : PySem.W.Frag) (C : Addr) : Prop where
  cls : ∃ nm q N bs bm sn sub ab col dd k0 k1 k2 k3 k5, K.lookup C = some (excClassObj nm q C N bs bm true sn sub ab col dd k0 k1 k2 k3 k5 "Exception.__new__") ∧ PySem.W.excTail exTail bm = true
  sa : PySem.W.findIn K (.ref C) "__setattr__" = some (some (.builtin "object.__setattr__"))
  ga : PySem.W.findIn K (.ref C) "__getattribute__" = some (some (.builtin "BaseException.__getattribute__"))
  gg : PySem.W.findIn K (.ref C) "__getattr__" = some none
  ca : PySem.W.findIn K (.ref C) "__class__" = some (some (.builtin "object.__class__"))
  cn : PySem.W.specialIn K (.builtin "object.__class__") "__get__" = some (some (.builtin "getset_descriptor.__get__"))
  ct : PySem.W.takesIn K (.builtin "object.__class__") = some true
  cm : PySem.W.mroIn K C (.type "object") = some true
  exC : PySem.W.subIn K (.ref C) (.type "BaseException") = some true
  tyC : PySem.W.typeIn K (.ref C) = some (.type "type")
  hdC : PySem.W.hasDictIn K C = true
  kC : PySem.W.keepIn K (.ref C) = true
section
variable {X : Cx} {pins : List (Addr × Obj)} {σ : St} {H : Hp} {s : Shared} {a C dx : Addr} {f : Str} {y : V} {u : Value} {fs : List (Str × V)} {Q : Unit → Shared → Prop} {E : Value → Shared → Prop} {A : Around}
theorem ost_newE (T : OexE X.K C) (I : Inv X pins σ H s) (e : H a = some (exo a C none)) (hno : PySem.W.findIn X.K (.ref C) f = some none) (ry : RelV y u)
    (h : ∀ dx s', H dx = none → dx ≠ a → Inv X pins σ (upd (upd H dx (exd dx [(f, y)])) a (exo a C (some dx))) s' → Q () s') : wpAny (model X.prog X.w) A (setAttr (.ref a) f u) Q E s := by
  obtain ⟨nm, q, N, bs, bm, sn, sub, ab, col, dd, k0, k1, k2, k3, k5, hC, hbm⟩ := T.cls
  have hcl : PySem.W.clsIn X.K C = some { name := nm, bases := bs, mro := .ref C :: bm, ns := N, qualname := q, hasDict := true, slotNames := sn, subclasses := sub, abstract := ab, collection := col, hasDel := false } := by
    unfold PySem.W.clsIn
    rw [hC] <;> rfl
  obtain ⟨t1, ho⟩ := exo_at I.hok e
  obtain ⟨hp, g, d, t, os⟩ := s
  refine PySem.W.set_plain I.kIn (ox := { cls := .ref C, dict := none, data := .fields #[.ref t1, .none, .none, .none, .bool false, .none] }) (od := none) ⟨ho, rfl, rfl, trivial⟩ T.sa ?_
  refine osaE I.kIn ho hcl (show PySem.W.excTail exTail (.ref C :: bm) = true from hbm) rfl hno (fun h' tk' dx k dn dne hx hn => ?_)
  have hnd : H dx = none := I.hok.fresh dn
  have nd : ∀ {b : Addr} {o : Obj}, hp.get? b = some o → b ≠ dx := fun {b o} q => Nat.ne_of_lt (Nat.lt_of_lt_of_le (Heap.lt_size q) dn)
  have na : ∀ {b : Addr}, H b = none → b ≠ a := fun {b} n z => by rw [z, e] at n; cases n
  have U : Un X.fs [] H (upd (upd H dx (exd dx [(f, y)])) a (exo a C (some dx))) hp h' := by
    refine ⟨fun b o q n _ _ => k b o (na n) q, fun b o q n _ _ => ⟨o.slots, k b o (na n) q⟩, fun b o q n _ => ?_, fun b o q _ => ?_, fun b xs q => ?_, fun b o v q => ?_, fun b ps q => ⟨#[], ?_⟩⟩
    · rw [upd_ne (na n), upd_ne (nd q)]; exact n
    · by_cases hb : b = a
      · exact ⟨_, by rw [hb]; exact hx⟩
      · exact ⟨o, k b o hb q⟩
    · rw [upd_ne (at_ne e q exo_tup), upd_ne (ne_of_none q hnd)]; exact q
    · rw [upd_ne (at_ne e q exo_frz), upd_ne (ne_of_none q hnd)]; exact q
    · rw [upd_ne (at_ne e q exo_tbl), upd_ne (ne_of_none q hnd), q]; simp
  refine h dx _ hnd dne (I.un (t' := tk') U fun b o q => ?_)
  by_cases hb : b = a
  · subst hb
    rw [upd_same] at q
    cases q
    exact exo_ok hx
  · rw [upd_ne hb] at q
    by_cases hd : b = dx
    · subst hd
      rw [upd_same] at q
      cases q
      exact exd_ok hn (relO_put (fs := []) ry fun g => True.intro)
    · rw [upd_ne hd] at q
      refine (I.hok b o q).stay (fun c v hc z => k c v ?_ z) (fun c hc => ?_) (fun c xs hc => ?_)
      · rcases hc with hc | hc
        · rw [hc]; exact hb
        · exact at_ne e hc exo_own
      · rw [upd_ne (at_ne e hc exo_own), upd_ne (ne_of_none hc hnd)]; exact hc
      · rw [upd_ne (at_ne e hc exo_tup), upd_ne (ne_of_none hc hnd)]; exact hc
end
/-- self.f = e in __init__ -/
def tOstE (K : PySem.W.Frag) (f : Str) (to te : TE) : TS := fun D σ H => te σ H fun y H1 => to σ H1 fun x H2 => ∃ a C : Addr, x = .ref a ∧ OexE K C ∧ PySem.W.findIn K (.ref C) f = some none ∧
  H2 a = some (exo a C none) ∧ ∀ dx, H2 dx = none → dx ≠ a → D.nx σ (upd (upd H2 dx (exd dx [(f, y)])) a (exo a C (some dx)))
theorem ps_ostE {X : Cx} {o e : Expr} {to te : TE} {f : Str} {p' pos : Pos} (ho : PE X o to) (he : PE X e te) (hs : swapsWith e (some (.Attribute o f p')) pos.line X.env = pure false := by rfl) : PS X (.Assign [.Attribute o f p'] e pos) (tOstE X.K f to te) := by
  refine ⟨fun pins s σ H D I h => ?_⟩
  refine plainObj_wpAny_Assign_Attribute (thn (he.run pins s σ H _ I h) fun v s1 ⟨y, H1, I1, r1, q1⟩ => thn (ho.run pins s1 σ H1 _ I1 q1) fun u s2 ⟨x, H2, I2, r2, a, C, ex, T, hno, ea, q⟩ => ?_) hs
  subst ex
  obtain rfl : u = Value.ref a := r2
  exact ost_newE T I2 ea hno r1 fun dx s' n ne J => ⟨σ, _, J, q dx n ne⟩
/-- what __init__ of such a class promises -/
def spInitE (C : Addr) (f : Str) : Sp := fun vs H Q _ => ∃ (a : Addr) (v : V), vs = [.ref a, v] ∧ H a = some (exo a C none) ∧ ∀ dx, H dx = none → dx ≠ a → Q .non (upd (upd H dx (exd dx [(f, v)])) a (exo a C (some dx)))
section
variable {X : Cx} {pins : List (Addr × Obj)} {σ : St} {H : Hp} {s : Shared} {C fI : Addr} {k : Nat} {fdI : FuncData} {f : Str}
/-- the class: its facts, its __init__ and the promise of that -/
structure ExK (P : Program) (w : World) (K : PySem.W.Frag) (mg : Str → Option Value) (base : Heap) (C : Addr) (f : Str) (k : Nat) : Prop where
  T : OexE K C
  no : PySem.W.findIn K (.ref C) f = some none
  ini : ∃ (fI : Addr) (fdI : FuncData), PySem.W.findIn K (.ref C) "__init__" = some (some (.ref fI)) ∧ PySem.W.typeIn K (.ref fI) = some (.type "function") ∧
    FnOk P w K mg base CX0 k fI fdI ["self", f] (spInitE C f) ∧
    (∀ (s : Shared) (a u : Value), BindsTo s fdI ⟨[a, u], []⟩ [("self", a), (f, u)]) ∧ ∀ (s : Shared) (a u : Value), BindsTo s fdI ⟨[a], [(f, u)]⟩ [("self", a), (f, u)]
/-- what holds behind C(v), C(f=v): a new exception at a, its dict at d -/
def MadeE (C : Addr) (f : Str) (v : V) (H : Hp) (Q : VK) : Prop := ∀ a d H', H a = none → H d = none → d ≠ a → Same H H' → H' a = some (exo a C (some d)) → H' d = some (exd d [(f, v)]) → Q (.ref a) H'
theorem run_exE {Q : VK} {u : Value} {v : V} {rest : List Value} {kw : List (Str × Value)} (Z : ExK X.prog X.w X.K X.mg X.base C f k) (hr : Room (k + 1) X.A) (I : Inv X pins σ H s) (r : RelV v u) (hk : (rest = [u] ∧ kw = []) ∨ (rest = [] ∧ kw = [(f, u)]))
    (h : MadeE C f v H Q) : wpAny (model X.prog X.w) X.A (call (.ref C) rest kw) (EP X pins σ Q) X.xe s := by
  obtain ⟨T, _, fI, fdI, iC, tI, F1, hb1, hb2⟩ := Z
  obtain ⟨nm, q, N, bs, bm, sn, sub, ab, col, dd, k0, k1, k2, k3, k5, hC, hbm⟩ := T.cls
  obtain ⟨hp, g, dr, tk, os⟩ := s
  have hsz : hp.objs.size ≤ hp.objs.size + 1 := Nat.le_succ _
  have hn : H (hp.objs.size + 1) = none := I.hok.fresh hsz
  have kk : ∀ b o, hp.get? b = some o → (madeH hp rest C).get? b = some o := fun b o e => Heap.get?_push_of_some _ (Heap.get?_push_of_some _ e)
  have hget : (madeH hp rest C).get? (hp.objs.size + 1) = some (PySem.HandSPX.excO C hp.objs.size) := by heap_get
  have I2 : Inv X pins σ (upd H (hp.objs.size + 1) (exo (hp.objs.size + 1) C none)) ⟨madeH hp rest C, g, dr, tk, os⟩ :=
    I.laid (t' := tk) (a := hp.objs.size + 1) (o := exo (hp.objs.size + 1) C none) (h' := madeH hp rest C) kk hsz (exo_ok hget)
  have hl : rest.length ≤ sizeLine := by
    rcases hk with ⟨e, _⟩ | ⟨e, _⟩ <;> (rw [e, sizeLine_eq]; simp)
  have hq : spInitE C f [.ref (hp.objs.size + 1), v] (upd H (hp.objs.size + 1) (exo (hp.objs.size + 1) C none)) (fun x H' => x = .non ∧ Q (.ref (hp.objs.size + 1)) H') (fun _ _ _ => False) := by
    refine ⟨_, v, rfl, upd_same, fun dx n ne => ⟨rfl, ?_⟩⟩
    have nd : H dx = none := by rw [upd_ne ne] at n; exact n
    refine h _ dx _ hn nd ne (fun b o e => ?_) upd_same (by rw [upd_ne ne, upd_same])
    rw [upd_ne (ne_of_none e hn), upd_ne (ne_of_none e nd), upd_ne (ne_of_none e hn)]
    exact e
  have hbt : ∀ s' : Shared, BindsTo s' fdI ⟨.ref (hp.objs.size + 1) :: rest, kw⟩ ((["self", f] : List Str).zip [.ref (hp.objs.size + 1), u]) := fun s' => by
    rcases hk with ⟨e1, e2⟩ | ⟨e1, e2⟩ <;> subst e1 e2
    · exact hb1 s' _ _
    · exact hb2 s' _ _
  refine wpAny_call (call_ownK PySem.F.excBase_Exception (fun Y => PySem.W.excTail_contains Y bm hbm) (I.kIn _ _ hC) hl (PySem.W.looks_findIn I.kIn iC) (fun self => PySem.W.bind_fn I.kIn self tI)
    (codeAny_mono (F1.run _ X.stack _ _ ⟨Value.ref (hp.objs.size + 1) :: rest, kw⟩ [Value.ref (hp.objs.size + 1), u] [V.ref (hp.objs.size + 1), v] _ (fun _ _ _ => False) (hr.make C rest kw) (I2.env0.make C rest kw) (hbt _) (.cons rfl (.cons r .nil)) hq) fun r s' hq' => ?_))
  cases r with
  | error e => exact hq'.elim
  | ok fl =>
    cases fl with
    | ret u =>
      obtain ⟨v', H', I3, rv, ev, q3⟩ := I2.after hq'
      subst ev
      exact ⟨rv, ⟨V.ref (hp.objs.size + 1), H', I3, rfl, q3⟩⟩
    | next => exact False.elim hq'
    | brk => exact False.elim hq'
    | cont => exact False.elim hq'
/-- C(e) -/
def tExE (C : Addr) (f : Str) (ta : TE) : TE := fun σ H Q => ta σ H fun v H1 => MadeE C f v H1 Q
theorem pe_exE {x : Str} {e : Expr} {te : TE} {p pos : Pos} (Z : ExK X.prog X.w X.K X.mg X.base C f k) (hr : Room (k + 1) X.A) (hm : X.mg x = some (.ref C)) (he : PE X e te) (hg : Gl X x := by rfl) (hdb : (x == ("__debug__" : Str)) = false := by decide)
    (hs : starEach [e] X.env = (false, eval e X.env) :: starEach [] X.env := by rfl) (hpl : (backTo pos (starEach [] X.env)).any (·.1) = false := by rfl) :
    PE X (.Call (.Name x p) [e] [] pos) (tExE C f te) := by
  refine ⟨fun pins s σ H Q I h => ?_⟩
  refine wpAny_Call_Name_kw (ld_glob I hg hm ?_ hdb)
  refine PySem.W.callWith_K (h₀ := X.base) I.ok.mod.kin Z.T.kC ?_ hs hpl
  rw [hs]
  show wpAny _ _ (spliced ((false, eval e X.env) :: backTo pos (starEach [] X.env))) _ _ s
  refine Calls.spliced_cons (thn (he.run pins s σ H _ I h) fun u s1 ⟨v, H1, I1, r1, q1⟩ => ?_)
  refine Calls.spliced_nil ⟨I1.kIn, ?_⟩
  show wpAny _ _ (call (.ref C) [u] []) _ _ _
  exact run_exE Z hr I1 r1 (.inl ⟨rfl, rfl⟩) q1
/-- C(f=e) -/
theorem pe_exK {x : Str} {e : Expr} {te : TE} {p pos kp : Pos} (Z : ExK X.prog X.w X.K X.mg X.base C f k) (hr : Room (k + 1) X.A) (hm : X.mg x = some (.ref C)) (he : PE X e te) (hg : Gl X x := by rfl) (hdb : (x == ("__debug__" : Str)) = false := by decide) :
    PE X (.Call (.Name x p) [] [⟨some f, e, kp⟩] pos) (tExE C f te) := by
  refine ⟨fun pins s σ H Q I h => ?_⟩
  refine wpAny_Call_Name_kw (ld_glob I hg hm ?_ hdb)
  refine PySem.W.callWith_KW0 (h₀ := X.base) I.ok.mod.kin Z.T.kC rfl ?_
  show wpAny _ _ (evalAll ((do let v ← eval e X.env; standAt pos; pure v) :: [])) _ _ s
  refine wpAny_evalAll_cons (wpAny_bind (thn (he.run pins s σ H _ I h) fun u s1 ⟨v, H1, I1, r1, q1⟩ => wpAny_bind (wpAny_standAt (wpAny_pure ?_))))
  refine wpAny_evalAll_nil ⟨I1.kIn, ?_⟩
  show wpAny _ _ (call (.ref C) [] [(f, u)]) _ _ _
  exact run_exE Z hr I1 r1 (.inr ⟨rfl, rfl⟩) q1
/-- e.f of such an exception -/
def tAtE (K : PySem.W.Frag) (f : Str) (te : TE) : TE := fun σ H Q => te σ H fun x H1 => ∃ (a C d : Addr) (fs : List (Str × V)) (v : V), x = .ref a ∧ OexE K C ∧ PySem.W.findIn K (.ref C) f = some none ∧ H1 a = some (exo a C (some d)) ∧ H1 d = some (exd d fs) ∧ fs.lookup f = some v ∧ Q v H1
theorem inst_at {a C d : Addr} {fs : List (Str × V)} (I : Inv X pins σ H s) (ha : H a = some (exo a C (some d))) (hd : H d = some (exd d fs)) :
    ∃ (ox od : Obj) (mA : Str → Option Value), PySem.W.InstAt s.heap a ox C (some od) ∧ (∀ name, PySem.W.lookIn name od = some (mA name)) ∧ ∀ g, RelO (fs.lookup g) (mA g) := by
  obtain ⟨t1, ho⟩ := exo_at I.hok ha
  obtain ⟨mA, hns, rel⟩ := exd_at I.hok hd
  obtain ⟨od, hod, hl⟩ := lookIn_ns hns
  exact ⟨_, od, mA, ⟨ho, rfl, rfl, hod⟩, hl, rel⟩
theorem pe_atE {e : Expr} {te : TE} {pos : Pos} (he : PE X e te) (hb : attributeBase e f X.env (eval e X.env) = eval e X.env := by rfl) : PE X (.Attribute e f pos) (tAtE X.K f te) := by
  refine ⟨fun pins s σ H Q I h => ?_⟩
  refine attr_of hb (thn (he.run pins s σ H _ I h) fun u s1 hh => ?_)
  obtain ⟨x, H1, I1, rx, a, C, d, fs, v, ex, T, hno, ha, hd, hl, q⟩ := hh
  subst ex
  obtain rfl : u = Value.ref a := rx
  obtain ⟨ox, od, mA, J, hlk, rel⟩ := inst_at I1 ha hd
  obtain ⟨u, hu, ru⟩ := RelO.some_of (v := v) (o := mA f) (by rw [← hl]; exact rel f)
  exact PySem.HandSPX.exc_get I1.kIn J T.ga T.gg T.exC (PySem.W.findObj_own T.hdC hno rfl (by rw [hlk, hu])) (handed_of ru) ⟨v, H1, I1.tok _, ru, q⟩
/-- isinstance(e, c) -/
def rIsX (K : PySem.W.Frag) : List V → Hp → VK → Prop := fun xs H Q => ∃ (a D : Addr) (dd : Option Addr) (c : V) (cv : Value) (b : Bool), xs = [.ref a, c] ∧ ClsV c cv ∧ OexE K D ∧ H a = some (exo a D dd) ∧ (∀ d, dd = some d → ∃ fs, H d = some (exd d fs)) ∧ PySem.W.kitOne K (.ref D) cv = some b ∧ Q (.bl b) H
theorem call_isX : CallR X (.builtin "isinstance") (rIsX X.K) := by
  intro pins s σ H xs us Q I r h
  obtain ⟨a, D, dd, c, cv, b, rfl, k, T, ha, hd, e, q⟩ := h
  obtain ⟨u1, u2, rfl, r1, r2⟩ := vals2 r
  have e2 := k.eq r2
  subst e2
  cases (show u1 = Value.ref a from r1)
  have hcl : (PySem.W.clsIn X.K D).isSome = true := by
    obtain ⟨cd, hc, _⟩ := PySem.W.any_some T.hdC
    rw [hc] <;> rfl
  have hne : Value.ref a ≠ .builtin "__main__.__loader__#opaque" := fun z => nomatch z
  cases dd with
  | none =>
    obtain ⟨t1, ho⟩ := exo_at I.hok ha
    exact PySem.W.kia_one (PySem.W.kitx_exc (od := none) hcl T.ga T.gg T.exC T.ca T.cn T.ct T.cm) I.kIn ⟨ho, rfl, rfl, trivial⟩ e hne fun tk => ⟨.bl b, H, I.tok tk, rfl, q⟩
  | some d =>
    obtain ⟨fs, hd⟩ := hd d rfl
    obtain ⟨ox, od, mA, J, _, _⟩ := inst_at I ha hd
    exact PySem.W.kia_one (PySem.W.kitx_exc hcl T.ga T.gg T.exC T.ca T.cn T.ct T.cm) I.kIn J e hne fun tk => ⟨.bl b, H, I.tok tk, rfl, q⟩
end
/-- an own class over Exception without an __init__ of its own -/
structure Ex0 (K : PySem.W.Frag) (C : Addr) : Prop where
  T : OexE K C
  ini : PySem.W.findIn K (.ref C) "__init__" = some (some (.builtin "Exception.__init__"))
section
variable {X : Cx} {pins : List (Addr × Obj)} {σ : St} {H : Hp} {s : Shared} {C : Addr}
theorem run_ex0 {Q : Value → Shared → Prop} (Z : Ex0 X.K C) (I : Inv X pins σ H s)
    (h : ∀ (h' : Heap) (t1 : Addr), (∀ b o, s.heap.get? b = some o → h'.get? b = some o) → h'.get? (s.heap.objs.size + 1) = some ({ cls := .ref C, dict := none, data := .fields #[.ref t1, .none, .none, .none, .bool false, .none] } : Obj) → Q (.ref (s.heap.objs.size + 1)) { s with heap := h' }) :
    wpAny (model X.prog X.w) X.A (call (.ref C) []) Q X.xe s := by
  obtain ⟨nm, q, N, bs, bm, sn, sub, ab, col, dd, k0, k1, k2, k3, k5, hC, hbm⟩ := Z.T.cls
  obtain ⟨hp, g, dr, tk, os⟩ := s
  exact PySem.W.call_B PySem.F.excBase_Exception (fun Y => PySem.W.excTail_contains Y bm hbm) (I.kIn _ _ hC) (PySem.W.looks_findIn I.kIn Z.ini) (by simp) fun h' k e _ => h h' _ k e
/-- C() -/
theorem pe_ex0 {x : Str} {p pos : Pos} (Z : Ex0 X.K C) (hm : X.mg x = some (.ref C)) (hg : Gl X x := by rfl) (hdb : (x == ("__debug__" : Str)) = false := by decide) :
    PE X (.Call (.Name x p) [] [] pos) (fun _ H Q => ∀ a, H a = none → Q (.ref a) (upd H a (exo a C none))) := by
  refine ⟨fun pins s σ H Q I h => ?_⟩
  refine wpAny_Call_Name_kw (ld_glob I hg hm ?_ hdb)
  refine PySem.W.callWith_K0 (K := X.K) I.kIn Z.T.kC ?_
  have hn : H (s.heap.objs.size + 1) = none := I.hok.fresh (Nat.le_succ _)
  exact run_ex0 Z I fun h' t1 k e => ⟨.ref (s.heap.objs.size + 1), _, I.laid (t' := s.toks) (a := s.heap.objs.size + 1) k (Nat.le_succ _) (exo_ok e), rfl, h _ hn⟩
/-- raise C(): what makes it -/
theorem pmk_ex0 {x : Str} {p pos : Pos} (Z : Ex0 X.K C) (hm : X.mg x = some (.ref C)) (hg : Gl X x := by rfl) (hdb : (x == ("__debug__" : Str)) = false := by decide) :
    PMk X (.Call (.Name x p) [] [] pos) (fun _ H Q => Q (.ref C) none H) := by
  intro pins s σ H Q I h
  refine wpAny_Call_Name_kw (ld_glob I hg hm ?_ hdb)
  refine PySem.W.callWith_K0 (K := X.K) I.kIn Z.T.kC ?_
  have hn : H (s.heap.objs.size + 1) = none := I.hok.fresh (Nat.le_succ _)
  refine run_ex0 Z I fun h' t1 k e => ?_
  have ne : s.heap.get? (s.heap.objs.size + 1) = none := by
    cases q : s.heap.get? (s.heap.objs.size + 1) with
    | none => rfl
    | some o => exact absurd (Nat.lt_of_succ_lt (Heap.lt_size q)) (Nat.lt_irrefl _)
  exact ⟨s.heap.objs.size + 1, _, _, s, H, .ref C, none, rfl, I, k, ne, e, ⟨rfl, rfl⟩, rfl, rfl, hn, rfl, I.bare, raises_own Z.T.exC Z.T.tyC, h⟩
/-- isinstance(e, c), e pinned -/
def rIsP (K : PySem.W.Frag) (a D : Addr) : List V → Hp → VK → Prop := fun xs H Q => ∃ (c : V) (cv : Value) (b : Bool), xs = [.ref a, c] ∧ ClsV c cv ∧ PySem.W.kitOne K (.ref D) cv = some b ∧ Q (.bl b) H
theorem call_isP {p : Addr × Obj} {D : Addr} (T : OexE X.K D) (hp : p ∈ X.pn) (hz : Zc (.ref D) none p.2) (hf : ∃ vs, p.2.data = .fields vs) : CallR X (.builtin "isinstance") (rIsP X.K p.1 D) := by
  intro pins s σ H xs us Q I r h
  obtain ⟨c, cv, b, rfl, k, e, q⟩ := h
  obtain ⟨u1, u2, rfl, r1, r2⟩ := vals2 r
  have e2 := k.eq r2
  subst e2
  cases (show u1 = Value.ref p.1 from r1)
  have hcl : (PySem.W.clsIn X.K D).isSome = true := by
    obtain ⟨cd, hc, _⟩ := PySem.W.any_some T.hdC
    rw [hc] <;> rfl
  obtain ⟨hget, _⟩ := I.pin p (List.mem_append_left _ hp)
  obtain ⟨vs, hv⟩ := hf
  have J : PySem.W.InstAt s.heap p.1 p.2 D none := by
    refine ⟨hget, hz.1, ?_, ?_⟩
    · unfold PySem.W.notCls
      rw [hv] <;> rfl
    · rw [hz.2]; trivial
  exact PySem.W.kia_one (PySem.W.kitx_exc (od := none) hcl T.ga T.gg T.exC T.ca T.cn T.ct T.cm) I.kIn J e (fun z => nomatch z) fun tk => ⟨.bl b, H, I.tok tk, rfl, q⟩
end
end Vx
end L2

set_option Elab.async false
set_option linter.all false
set_option maxRecDepth 100000
set_option maxHeartbeats 4000000
namespace L2
namespace Vx
open PySem PySem.Spec PyProof.Rows _root_.Vx
/-! ### raise C(e), C an own class over Exception with an __init__ that stores its argument -/
section
variable {X : Cx} {C : Addr} {f : Str} {k : Nat} {x : Str} {e : Expr} {te : TE} {p pos : Pos}
def tMkE (C : Addr) (f : Str) (te : TE) : St → Hp → XK → Prop := fun σ H Q => tCons te tNil σ H fun vs H1 => ∃ v, vs = [v] ∧ ∀ d, H1 d = none → Q (.ref C) (some d) (upd H1 d (.xd [(f, v)]))
theorem pmk_exE (Z : ExK X.prog X.w X.K X.mg X.base C f k) (hr : Room (k + 1) X.A) (hm : X.mg x = some (.ref C)) (he : PE X e te) (hg : Gl X x := by rfl) (hdb : (x == ("__debug__" : Str)) = false := by decide)
    (hst : starEach [e] X.env = (false, eval e X.env) :: starEach [] X.env := by rfl) (hpl : (backTo pos (starEach [] X.env)).any (·.1) = false := by rfl) :
    PMk X (.Call (.Name x p) [e] [] pos) (tMkE C f te) := by
  intro pins s σ H Q I h
  obtain ⟨T, _, fI, fdI, iC, tI, F1, hb1, hb2⟩ := Z
  obtain ⟨nm, q, N, bs, bm, sn, sub, ab, col, dd, k0, k1, k2, k3, k5, hC, hbm⟩ := T.cls
  refine wpAny_Call_Name_kw (ld_glob I hg hm ?_ hdb)
  refine PySem.W.callWith_K (h₀ := X.base) I.ok.mod.kin T.kC (thn ((pa_cons (hs := hst) he pa_nil).run pos pins s σ H _ I h) fun us s1 ⟨vs, H1, I1, r1, v, ev, q1⟩ => ⟨I1.kIn, ?_⟩) hst hpl
  subst ev
  obtain ⟨u, rfl, r⟩ : ∃ u, us = [u] ∧ RelV v u := by
    cases r1 with
    | cons r rn =>
      cases rn
      exact ⟨_, rfl, r⟩
  show wpAny _ _ (call (.ref C) [u]) _ _ _
  obtain ⟨hp, g, dr, tk, os⟩ := s1
  have hsz : hp.objs.size ≤ hp.objs.size + 1 := Nat.le_succ _
  have hn : H1 (hp.objs.size + 1) = none := I1.hok.fresh hsz
  have kk : ∀ b o, hp.get? b = some o → (madeH hp [u] C).get? b = some o := fun b o e => Heap.get?_push_of_some _ (Heap.get?_push_of_some _ e)
  have hget : (madeH hp [u] C).get? (hp.objs.size + 1) = some (PySem.HandSPX.excO C hp.objs.size) := by heap_get
  have I2 : Inv X pins σ (upd H1 (hp.objs.size + 1) (exo (hp.objs.size + 1) C none)) ⟨madeH hp [u] C, g, dr, tk, os⟩ :=
    I1.laid (t' := tk) (a := hp.objs.size + 1) (o := exo (hp.objs.size + 1) C none) (h' := madeH hp [u] C) kk hsz (exo_ok hget)
  have hl : [u].length ≤ sizeLine := by rw [sizeLine_eq]; simp
  have hq : spInitE C f [.ref (hp.objs.size + 1), v] (upd H1 (hp.objs.size + 1) (exo (hp.objs.size + 1) C none)) (fun x H2 => x = .non ∧ ∃ (d : Addr) (fs : List (Str × V)), H2 (hp.objs.size + 1) = some (exo (hp.objs.size + 1) C (some d)) ∧ H2 d = some (exd d fs) ∧ H1 d = none ∧ Q (.ref C) (some d) (upd (del H2 (hp.objs.size + 1)) d (.xd fs))) (fun _ _ _ => False) := by
    refine ⟨_, v, rfl, upd_same, fun dx n ne => ⟨rfl, dx, [(f, v)], upd_same, by rw [upd_ne ne, upd_same], by rw [upd_ne ne] at n; exact n, ?_⟩⟩
    have nd : H1 dx = none := by rw [upd_ne ne] at n; exact n
    have e : upd (del (upd (upd (upd H1 (hp.objs.size + 1) (exo (hp.objs.size + 1) C none)) dx (exd dx [(f, v)])) (hp.objs.size + 1) (exo (hp.objs.size + 1) C (some dx))) (hp.objs.size + 1)) dx (.xd [(f, v)]) = upd H1 dx (.xd [(f, v)]) := by
      funext b
      by_cases b1 : b = dx
      · rw [b1, upd_same, upd_same]
      · rw [upd_ne b1, upd_ne b1]
        by_cases b2 : b = hp.objs.size + 1
        · rw [b2, del_same, hn]
        · rw [del_ne b2, upd_ne b2, upd_ne b1, upd_ne b2]
    rw [e]
    exact q1 dx nd
  have hbt : ∀ s' : Shared, BindsTo s' fdI ⟨.ref (hp.objs.size + 1) :: [u], []⟩ ((["self", f] : List Str).zip [.ref (hp.objs.size + 1), u]) := fun s' => hb1 s' _ _
  refine wpAny_call (call_ownK PySem.F.excBase_Exception (fun Y => PySem.W.excTail_contains Y bm hbm) (I1.kIn _ _ hC) hl (PySem.W.looks_findIn I1.kIn iC) (fun self => PySem.W.bind_fn I1.kIn self tI)
    (codeAny_mono (F1.run _ X.stack _ _ ⟨Value.ref (hp.objs.size + 1) :: [u], []⟩ [Value.ref (hp.objs.size + 1), u] [V.ref (hp.objs.size + 1), v] _ (fun _ _ _ => False) (hr.make C [u] []) (I2.env0.make C [u] []) (hbt _) (.cons rfl (.cons r .nil)) hq) fun r s' hq' => ?_))
  cases r with
  | error e => exact hq'.elim
  | ok fl =>
    cases fl with
    | ret u =>
      obtain ⟨v, H2, os2, bare2, un2, hok2, rv, ev, d, fs, ea, ed, hd1, q2⟩ := hq'
      subst ev
      obtain ⟨h2, g2, d2, t2, os'⟩ := s'
      exact ⟨rv, mk_end (raises_own T.exC T.tyC) I1 hsz kk un2 hok2 os2 bare2 ea ed hd1 q2⟩
    | next => exact False.elim hq'
    | brk => exact False.elim hq'
    | cont => exact False.elim hq'
end
end Vx
end L2
namespace L2
open PySem PySem.Spec PyProof.Rows
/-! ### o.m(..) within a try: what is raised is wished for at the slots as they stand -/
section
variable {X : Cx} {CX : CXT} {k : Nat} {f C : Addr} {fd : FuncData} {ps : List Str} {sp : Sp} {E : St → XK} {m : Str} {pos apos : Pos} {e o : Expr} {es : List Expr} {ta : TE} {t : TA}
def tMethAt (C : Addr) (m : Str) (sp : Sp) (E : St → XK) (ta : TE) (t : TA) : TE := fun σ H Q => ta σ H fun x H1 => ∃ a dx fs, x = .ref a ∧ H1 a = some (.ins C dx fs) ∧ fs.lookup m = none ∧ t σ H1 fun vs H2 => sp (x :: vs) H2 Q (E σ)
theorem pe_methAt {pl : Sem Bool} (he : PE X o ta) (c : Cls X.K C) (hm : Meth X.K C m f) (F : FnOk X.prog X.w X.K X.mg X.base CX k f fd ps sp) (hr : Room k X.A) (hb : Binds X.K fd ps []) (hx : ∀ σ, PassesAt CX X σ (E σ)) (ha : PA X (e :: es) t)
    (hst : starEach (e :: es) X.env = (false, eval e X.env) :: starEach es X.env := by rfl) (hpl : (backTo pos (starEach es X.env)).any (·.1) = false := by rfl)
    (ht : eval (.Call (.Attribute o m apos) (e :: es) [] pos) X.env = (do
      let ov ← eval o X.env
      standAt apos.atName
      let (f, first) ← holding [ov] (getMethod ov m pl)
      callWith pos f first (backTo pos (starEach (e :: es) X.env)) (backToKw pos (keywordEach [] X.env))) := by rfl) :
    PE X (.Call (.Attribute o m apos) (e :: es) [] pos) (tMethAt C m sp E ta t) := by
  refine ⟨fun pins s σ H Q I h => ?_⟩
  refine PySem.W.methodCall_KW (pl := pl) (thn (he.run pins s σ H _ I h) fun u s1 ⟨x, H1, I1, rx, a, dx, fs, ex, ea, l, q⟩ => ?_) ht
  subst ex
  obtain rfl : u = Value.ref a := rx
  refine getmeth_ok I1 ea c hm l ?_
  refine PySem.W.callWith_K (first := [.ref a]) (h₀ := X.base) I.ok.mod.kin hm.kp (thn (ha.run pos pins s1 σ H1 _ I1 q) fun us s2 ⟨vs, H2, I2, r, q2⟩ => ⟨I2.kIn, ?_⟩) hst hpl
  exact run_fnS (us := .ref a :: us) (vs := .ref a :: vs) F hr hb (hx σ) I2 (.cons rfl r) q2
theorem pe_methAt0 {pl : Sem Bool} (he : PE X o ta) (c : Cls X.K C) (hm : Meth X.K C m f) (F : FnOk X.prog X.w X.K X.mg X.base CX k f fd ps sp) (hr : Room k X.A) (hb : Binds X.K fd ps []) (hx : ∀ σ, PassesAt CX X σ (E σ))
    (ht : eval (.Call (.Attribute o m apos) [] [] pos) X.env = (do
      let ov ← eval o X.env
      standAt apos.atName
      let (f, first) ← holding [ov] (getMethod ov m pl)
      callWith pos f first (backTo pos (starEach [] X.env)) (backToKw pos (keywordEach [] X.env))) := by rfl) :
    PE X (.Call (.Attribute o m apos) [] [] pos) (tMethAt C m sp E ta tNil) := by
  refine ⟨fun pins s σ H Q I h => ?_⟩
  refine PySem.W.methodCall_KW (pl := pl) (thn (he.run pins s σ H _ I h) fun u s1 ⟨x, H1, I1, rx, a, dx, fs, ex, ea, l, q⟩ => ?_) ht
  subst ex
  obtain rfl : u = Value.ref a := rx
  refine getmeth_ok I1 ea c hm l ?_
  exact PySem.W.callWith_K0 (first := [.ref a]) I1.kIn hm.kp (by
    have go := run_fnS (us := [.ref a]) (vs := [.ref a]) F hr hb (hx σ) I1 (.cons rfl .nil) q
    exact go)
end
/-- a def that raises, called where it raises nothing -/
theorem passF {X : Cx} : Passes (L2.CX X.prog X.w) X (fun _ _ _ => False) := passes_call takes0 (fun _ _ _ _ h => h)
end L2

set_option Elab.async false
set_option linter.all false
set_option maxRecDepth 100000
set_option maxHeartbeats 1000000
/-! ### makers of machines, the maths: how much of a piece is matched; beginnings; finite lots -/
namespace Mk
/-- how many letters the longest beginning of p has with which t ends -/
def mtFrom (p t : List Nat) : Nat → Nat
  | 0 => 0
  | m + 1 => if p.take (m + 1) <:+ t then m + 1 else mtFrom p t m
def mt (p t : List Nat) : Nat := mtFrom p t p.length
theorem mtFrom_le (p t : List Nat) : ∀ n, mtFrom p t n ≤ n
  | 0 => Nat.le_refl 0
  | n + 1 => by
    unfold mtFrom
    split
    · exact Nat.le_refl _
    · exact Nat.le_succ_of_le (mtFrom_le p t n)
theorem mtFrom_suf (p t : List Nat) : ∀ n, p.take (mtFrom p t n) <:+ t
  | 0 => by
    show p.take 0 <:+ t
    rw [List.take_zero]
    exact List.nil_suffix
  | n + 1 => by
    unfold mtFrom
    split
    · rename_i h
      exact h
    · exact mtFrom_suf p t n
theorem mtFrom_max (p t : List Nat) : ∀ n j, j ≤ n → p.take j <:+ t → j ≤ mtFrom p t n
  | 0, j, hj, _ => by omega
  | n + 1, j, hj, h => by
    unfold mtFrom
    split
    · exact hj
    · rename_i hn
      refine mtFrom_max p t n j ?_ h
      rcases Nat.lt_or_ge j (n + 1) with c | c
      · omega
      · obtain rfl : j = n + 1 := by omega
        exact absurd h hn
theorem mt_le (p t : List Nat) : mt p t ≤ p.length := mtFrom_le p t _
theorem mt_suf (p t : List Nat) : p.take (mt p t) <:+ t := mtFrom_suf p t _
theorem mt_max {p t : List Nat} {j : Nat} (hj : j ≤ p.length) (h : p.take j <:+ t) : j ≤ mt p t := mtFrom_max p t _ j hj h
theorem mt_eq {p t : List Nat} {m : Nat} (hm : m ≤ p.length) (h : p.take m <:+ t) (top : ∀ j, j ≤ p.length → p.take j <:+ t → j ≤ m) : mt p t = m := Nat.le_antisymm (top _ (mt_le p t) (mt_suf p t)) (mt_max hm h)
theorem mt_nil (p : List Nat) : mt p [] = 0 := mt_eq (Nat.zero_le _) (by rw [List.take_zero]; exact List.nil_suffix) fun j hj h => by
  have z := h.length_le
  rw [List.length_take] at z
  have : ([] : List Nat).length = 0 := rfl
  omega
theorem suf_snoc {u t : List Nat} {a b : Nat} (h : u ++ [a] <:+ t ++ [b]) : u <:+ t ∧ a = b := by
  obtain ⟨s, e⟩ := h
  rw [← List.append_assoc] at e
  exact ⟨⟨s, (List.append_inj' e rfl).1⟩, List.singleton_inj.mp (List.append_inj' e rfl).2⟩
theorem take_suc {p : List Nat} {j : Nat} (h : j < p.length) : p.take (j + 1) = p.take j ++ [p[j]] := (List.take_append_getElem h).symm
/-- one letter more: it's enough to look at what was matched -/
theorem mt_step (p t : List Nat) (c : Nat) : mt p (p.take (mt p t) ++ [c]) = mt p (t ++ [c]) := by
  have both : ∀ j, j ≤ p.length → (p.take j <:+ p.take (mt p t) ++ [c] ↔ p.take j <:+ t ++ [c]) := fun j hj => by
    constructor
    · intro h
      obtain ⟨s, e⟩ := mt_suf p t
      refine h.trans ⟨s, ?_⟩
      rw [← List.append_assoc, e]
    · intro h
      cases j with
      | zero =>
        rw [List.take_zero]
        exact List.nil_suffix
      | succ j =>
        rw [take_suc (show j < p.length by omega)] at h ⊢
        obtain ⟨h1, h2⟩ := suf_snoc h
        have le := mt_max (by omega) h1
        have z : p.take j <:+ p.take (mt p t) := List.suffix_of_suffix_length_le h1 (mt_suf p t) (by
          rw [List.length_take, List.length_take]
          omega)
        obtain ⟨s, e⟩ := z
        exact ⟨s, by rw [← List.append_assoc, e, h2]⟩
  refine mt_eq (mt_le _ _) ((both _ (mt_le _ _)).mpr (mt_suf _ _)) fun j hj h => mt_max hj ((both j hj).mp h)
theorem mt_all (p t : List Nat) : mt p t = p.length ↔ p <:+ t := by
  constructor
  · intro h
    have z := mt_suf p t
    rw [h, List.take_length] at z
    exact z
  · intro h
    refine Nat.le_antisymm (mt_le p t) (mt_max (Nat.le_refl _) ?_)
    rw [List.take_length]
    exact h
/-- at how many places a piece ends, as far as we are -/
def ends (p : List Nat) : List Nat → List Nat → Nat
  | _, [] => 0
  | t, c :: r => (if p <:+ t ++ [c] then 1 else 0) + ends p (t ++ [c]) r
theorem ends_snoc (p : List Nat) : ∀ (w t : List Nat) (c : Nat), ends p t (w ++ [c]) = ends p t w + (if p <:+ t ++ w ++ [c] then 1 else 0)
  | [], t, c => by
    show (if p <:+ t ++ [c] then 1 else 0) + 0 = 0 + _
    rw [List.append_nil]
    omega
  | a :: w, t, c => by
    show (if p <:+ t ++ [a] then 1 else 0) + ends p (t ++ [a]) (w ++ [c]) = (if p <:+ t ++ [a] then 1 else 0) + ends p (t ++ [a]) w + _
    rw [ends_snoc p w (t ++ [a]) c, List.append_assoc t [a] w]
    exact (Nat.add_assoc _ _ _).symm
theorem cnt_add {P : Nat → Bool} {x : Nat} (hn : P x = false) : ∀ l : List Nat, l.Nodup → x ∈ l → (l.filter fun k => P k || decide (k = x)).length = (l.filter P).length + 1
  | [], _, h => nomatch h
  | a :: l, nd, h => by
    obtain ⟨n1, n2⟩ := List.nodup_cons.mp nd
    by_cases e : a = x
    · subst e
      have same : (l.filter fun k => P k || decide (k = a)) = l.filter P := List.filter_congr fun k hk => by
        have : k ≠ a := fun z => n1 (z ▸ hk)
        rw [decide_eq_false this, Bool.or_false]
      rw [List.filter_cons, List.filter_cons, same, hn]
      simp
    · have hx : x ∈ l := (List.mem_cons.mp h).resolve_left fun z => e z.symm
      have ih := cnt_add hn l n2 hx
      rw [List.filter_cons, List.filter_cons, decide_eq_false e, Bool.or_false]
      split
      · rw [List.length_cons, List.length_cons, ih]
      · exact ih
/-- the same, told by where the piece stands -/
def stands (p w : List Nat) : Nat := ((List.range w.length).filter fun k => decide ((w.drop k).take p.length = p)).length
theorem stands_snoc {p : List Nat} (h0 : p ≠ []) (w : List Nat) (c : Nat) : stands p (w ++ [c]) = stands p w + (if p <:+ w ++ [c] then 1 else 0) := by
  have hp : 0 < p.length := List.length_pos_iff.mpr h0
  -- a place tells the piece in the longer word: as in the shorter one, or at the end
  have at_ : ∀ k, k ≤ w.length → (((w ++ [c]).drop k).take p.length = p ↔ ((w.drop k).take p.length = p ∨ (k + p.length = w.length + 1 ∧ p <:+ w ++ [c]))) := fun k hk => by
    have dk : (w ++ [c]).drop k = w.drop k ++ [c] := List.drop_append_of_le_length hk
    have ld : (w.drop k).length = w.length - k := List.length_drop
    rcases Nat.lt_or_ge w.length (k + p.length) with hlt | hge
    · constructor
      · intro h
        right
        have z := congrArg List.length h
        rw [List.length_take, List.length_drop, List.length_append] at z
        have l1 : ([c] : List Nat).length = 1 := rfl
        refine ⟨by omega, k |> fun _ => ⟨(w ++ [c]).take k, ?_⟩⟩
        have e : ((w ++ [c]).drop k).take p.length = (w ++ [c]).drop k := List.take_of_length_le (by rw [List.length_drop, List.length_append]; omega)
        rw [e] at h
        rw [← h]
        exact List.take_append_drop k _
      · rintro (h | ⟨h1, h2⟩)
        · have z := congrArg List.length h
          rw [List.length_take] at z
          omega
        · obtain ⟨s, e⟩ := h2
          have z := congrArg List.length e
          rw [List.length_append, List.length_append] at z
          have l1 : ([c] : List Nat).length = 1 := rfl
          have sk : s.length = k := by omega
          rw [← e, ← sk, List.drop_left, List.take_length]
    · rw [dk, List.take_append_of_le_length (by omega)]
      constructor
      · intro h
        exact .inl h
      · rintro (h | ⟨h1, _⟩)
        · exact h
        · omega
  have last : decide ((w.drop w.length).take p.length = p) = false := decide_eq_false fun h => by
    have z := congrArg List.length h
    rw [List.length_take, List.length_drop] at z
    omega
  unfold stands
  have l1 : (w ++ [c]).length = w.length + 1 := by rw [List.length_append]; rfl
  have old : ((List.range (w.length + 1)).filter fun k => decide ((w.drop k).take p.length = p)).length = ((List.range w.length).filter fun k => decide ((w.drop k).take p.length = p)).length := by
    rw [List.range_succ, List.filter_append, List.length_append]
    have : ([w.length].filter fun k => decide ((w.drop k).take p.length = p)) = [] := by
      rw [List.filter_cons, last]
      rfl
    rw [this]
    rfl
  rw [l1, ← old]
  by_cases hs : p <:+ w ++ [c]
  · rw [if_pos hs]
    have hle := hs.length_le
    rw [l1] at hle
    have k0 : w.length + 1 - p.length ∈ List.range (w.length + 1) := List.mem_range.mpr (by omega)
    have no : decide ((w.drop (w.length + 1 - p.length)).take p.length = p) = false := decide_eq_false fun h => by
      have z := congrArg List.length h
      rw [List.length_take, List.length_drop] at z
      omega
    rw [← cnt_add (P := fun k => decide ((w.drop k).take p.length = p)) no _ List.nodup_range k0]
    refine congrArg List.length (List.filter_congr fun k hk => ?_)
    have hk' := List.mem_range.mp hk
    rw [Bool.eq_iff_iff, Bool.or_eq_true, decide_eq_true_iff, decide_eq_true_iff, decide_eq_true_iff, at_ k (by omega)]
    constructor
    · rintro (h | ⟨h1, _⟩)
      · exact .inl h
      · exact .inr (by omega)
    · rintro (h | h)
      · exact .inl h
      · exact .inr ⟨by omega, hs⟩
  · rw [if_neg hs, Nat.add_zero]
    refine congrArg List.length (List.filter_congr fun k hk => ?_)
    have hk' := List.mem_range.mp hk
    rw [decide_eq_decide, at_ k (by omega)]
    exact ⟨fun h => h.elim id fun z => absurd z.2 hs, .inl⟩
theorem stands_ends {p : List Nat} (h0 : p ≠ []) (w : List Nat) : stands p w = ends p [] w := by
  have go : ∀ (r u : List Nat), stands p u = ends p [] u → stands p (u ++ r) = ends p [] (u ++ r) := by
    intro r
    induction r with
    | nil => intro u h; rw [List.append_nil]; exact h
    | cons c r ih =>
      intro u h
      have e : u ++ c :: r = (u ++ [c]) ++ r := by rw [List.append_assoc]; rfl
      rw [e]
      refine ih (u ++ [c]) ?_
      rw [stands_snoc h0, ends_snoc, h]
      rfl
  exact go w [] rfl
end Mk

set_option Elab.async false
set_option linter.all false
set_option maxRecDepth 100000
set_option maxHeartbeats 1000000
namespace Vf
open PySem PySem.Spec PyProof.Rows L2 L2.Vx Mk
/-! ### makers: machines by pieces, ends, beginnings, lengths -/
/-- the codes of letters told by their places -/
def back (L w : List Nat) : List Nat := w.map fun i => L.getD i 0
theorem back_snoc (L w : List Nat) (a : Nat) : back L (w ++ [a]) = back L w ++ [L.getD a 0] := by unfold back; rw [List.map_append]; rfl
theorem row_map {n : Nat} {f : Nat → List Nat} {i : Nat} (h : i < n) : rowOf ((List.range n).map f) i = f i := by
  unfold rowOf
  rw [List.getD_eq_getElem?_getD, List.getElem?_map, List.getElem?_range h]
  rfl
theorem next_map {L : List Nat} {g : Nat → Nat} {rows : List (List Nat)} {i a : Nat} (h : rowOf rows i = L.map g) (ha : a < L.length) : nextOf rows a i = g (L.getD a 0) := by
  unfold nextOf
  rw [h, List.getD_eq_getElem?_getD, List.getElem?_map, getD_at ha]
  rfl
/-- a machine told by what its states are: f tells the state of a text -/
theorem led_by {rows : List (List Nat)} {L : List Nat} {f : List Nat → Nat} (h0 : f [] = 0) (hs : ∀ (t : List Nat) (a : Nat), a < L.length → nextOf rows a (f t) = f (t ++ [L.getD a 0])) : ∀ (w : List Nat), (∀ a ∈ w, a < L.length) → led rows w 0 = f (back L w) := by
  have go : ∀ (r u : List Nat), (∀ a ∈ r, a < L.length) → led rows r (f (back L u)) = f (back L (u ++ r)) := by
    intro r
    induction r with
    | nil => intro u _; rw [List.append_nil]; rfl
    | cons a r ih =>
      intro u hr
      rw [led_cons, hs _ a (hr a (List.mem_cons_self ..)), ← back_snoc, ih (u ++ [a]) fun b hb => hr b (List.mem_cons_of_mem _ hb), List.append_assoc]
      rfl
  intro w hw
  have z := go w [] hw
  rw [show back L [] = [] from rfl, h0] at z
  exact z
theorem sq_map {n k : Nat} {f : Nat → List Nat} (h0 : 0 < n) (hn : n ≤ 1000) (hk : k ≤ 100) (hw : ∀ i, i < n → (f i).length = k) (hi : ∀ i, i < n → ∀ t ∈ f i, t < n) : Square ((List.range n).map f) k := by
  have hl : ((List.range n).map f).length = n := by rw [List.length_map, List.length_range]
  refine ⟨by omega, by omega, fun r hr => ?_, hk, fun r hr t ht => ?_⟩
  · obtain ⟨i, hi', rfl⟩ := List.mem_map.mp hr
    exact hw i (List.mem_range.mp hi')
  · obtain ⟨i, hi', rfl⟩ := List.mem_map.mp hr
    rw [hl]
    exact hi i (List.mem_range.mp hi') t ht
/-! #### ends -/
def matchR (L p : List Nat) : List (List Nat) := (List.range (p.length + 1)).map fun m => L.map fun c => mt p (p.take m ++ [c])
theorem led_match {L p w : List Nat} (hw : ∀ a ∈ w, a < L.length) : led (matchR L p) w 0 = mt p (back L w) :=
  led_by (f := mt p) (mt_nil p) (fun t a ha => by
    rw [next_map (g := fun c => mt p (p.take (mt p t) ++ [c])) (row_map (by have := mt_le p t; omega)) ha]
    exact mt_step p t _) w hw
theorem match_sq {L p : List Nat} (hp : p.length < 1000) (hk : L.length ≤ 100) : Square (matchR L p) L.length :=
  sq_map (Nat.succ_pos _) (by omega) hk (fun i _ => List.length_map _) fun i _ t ht => by
    obtain ⟨c, _, rfl⟩ := List.mem_map.mp ht
    have := mt_le p (p.take i ++ [c])
    omega
theorem ending_mach {L p : List Nat} (hp : p.length < 1000) (hk : L.length ≤ 100) : Mach (matchR L p) L.length [p.length] :=
  ⟨match_sq hp hk, fun x hx => by
    rw [List.mem_singleton.mp hx]
    unfold matchR
    rw [List.length_map, List.length_range]
    omega, List.pairwise_singleton _ _⟩
theorem ending_lang {L p w : List Nat} (hw : ∀ a ∈ w, a < L.length) : led (matchR L p) w 0 ∈ [p.length] ↔ p <:+ back L w := by
  rw [led_match hw, List.mem_singleton]
  exact mt_all p _
/-! #### pieces, counted -/
def hvNext (L p : List Nat) (n i c : Nat) : Nat :=
  (if mt p (p.take (i % (p.length + 1)) ++ [c]) = p.length then (if i / (p.length + 1) < n then i / (p.length + 1) + 1 else i / (p.length + 1)) else i / (p.length + 1)) * (p.length + 1) + mt p (p.take (i % (p.length + 1)) ++ [c])
def hvR (L p : List Nat) (n : Nat) : List (List Nat) := (List.range ((n + 1) * (p.length + 1))).map fun i => L.map (hvNext L p n i)
theorem cell_div {w s m : Nat} (h : m < w) : (s * w + m) / w = s ∧ (s * w + m) % w = m := by
  have hw : 0 < w := by omega
  refine ⟨?_, ?_⟩
  · rw [Nat.mul_comm, Nat.mul_add_div hw, Nat.div_eq_of_lt h, Nat.add_zero]
  · rw [Nat.mul_comm, Nat.mul_add_mod, Nat.mod_eq_of_lt h]
theorem cell_lt {w s m n : Nat} (hs : s ≤ n) (h : m < w) : s * w + m < (n + 1) * w := by
  have : s * w ≤ n * w := Nat.mul_le_mul_right _ hs
  rw [Nat.add_mul, Nat.one_mul]
  omega
/-- the state of a text: how often the piece ended, as far as asked for, and how much of it is matched -/
def hvF (p : List Nat) (n : Nat) (t : List Nat) : Nat := min (Mk.ends p [] t) n * (p.length + 1) + mt p t
theorem led_having {L p w : List Nat} {n : Nat} (hw : ∀ a ∈ w, a < L.length) : led (hvR L p n) w 0 = hvF p n (back L w) :=
  led_by (f := hvF p n) (by
    unfold hvF
    rw [mt_nil]
    show min 0 n * _ + 0 = 0
    rw [Nat.zero_min, Nat.zero_mul]) (fun t a ha => by
    have hm : mt p t < p.length + 1 := Nat.lt_succ_of_le (mt_le p t)
    have hs : min (Mk.ends p [] t) n ≤ n := Nat.min_le_right _ _
    obtain ⟨d1, d2⟩ := cell_div (s := min (Mk.ends p [] t) n) hm
    rw [next_map (g := hvNext L p n (hvF p n t)) (row_map (cell_lt hs hm)) ha]
    unfold hvNext hvF
    rw [d1, d2, mt_step]
    have e : Mk.ends p [] (t ++ [L.getD a 0]) = Mk.ends p [] t + (if p <:+ t ++ [L.getD a 0] then 1 else 0) := ends_snoc p t [] _
    rw [e]
    by_cases c : p <:+ t ++ [L.getD a 0]
    · rw [if_pos ((mt_all p _).mpr c), if_pos c]
      congr 2
      split <;> omega
    · rw [if_neg fun z => c ((mt_all p _).mp z), if_neg c]
      congr 2) w hw
theorem having_sq {L p : List Nat} {n : Nat} (hn : (n + 1) * (p.length + 1) ≤ 1000) (hk : L.length ≤ 100) : Square (hvR L p n) L.length := by
  have h0 : 0 < (n + 1) * (p.length + 1) := Nat.mul_pos (Nat.succ_pos _) (Nat.succ_pos _)
  refine sq_map h0 hn hk (fun i _ => List.length_map _) fun i hi t ht => ?_
  obtain ⟨c, _, rfl⟩ := List.mem_map.mp ht
  have hd : i / (p.length + 1) ≤ n := by
    have := Nat.div_lt_of_lt_mul (show i < (p.length + 1) * (n + 1) by rw [Nat.mul_comm]; exact hi)
    omega
  unfold hvNext
  refine cell_lt ?_ (Nat.lt_succ_of_le (mt_le p _))
  split
  · split <;> omega
  · exact hd
def hvE (p : List Nat) (n : Nat) : List Nat := (List.range ((n + 1) * (p.length + 1))).filter fun i => decide (n * (p.length + 1) ≤ i)
theorem having_mach {L p : List Nat} {n : Nat} (hn : (n + 1) * (p.length + 1) ≤ 1000) (hk : L.length ≤ 100) : Mach (hvR L p n) L.length (hvE p n) :=
  ⟨having_sq hn hk, fun x hx => by
    unfold hvR
    rw [List.length_map, List.length_range]
    exact List.mem_range.mp (List.mem_filter.mp hx).1, List.Pairwise.filter _ List.pairwise_lt_range⟩
theorem having_lang {L p w : List Nat} {n : Nat} (h0 : p ≠ []) (hw : ∀ a ∈ w, a < L.length) : led (hvR L p n) w 0 ∈ hvE p n ↔ n ≤ stands p (back L w) := by
  have hm : mt p (back L w) < p.length + 1 := Nat.lt_succ_of_le (mt_le p _)
  rw [led_having hw, stands_ends h0]
  unfold hvE
  rw [List.mem_filter, List.mem_range, decide_eq_true_iff]
  unfold hvF
  constructor
  · rintro ⟨_, h⟩
    rcases Nat.lt_or_ge (Mk.ends p [] (back L w)) n with c | c
    · have z : (min (Mk.ends p [] (back L w)) n + 1) * (p.length + 1) ≤ n * (p.length + 1) := Nat.mul_le_mul_right _ (by omega)
      rw [Nat.add_mul, Nat.one_mul] at z
      omega
    · exact c
  · intro h
    refine ⟨cell_lt (Nat.min_le_right _ _) hm, ?_⟩
    rw [Nat.min_eq_right h]
    omega
/-! #### lengths -/
def lenR (k per : Nat) : List (List Nat) := (List.range per).map fun r => List.replicate k ((r + 1) % per)
theorem led_len {L w : List Nat} {per : Nat} (hp : 0 < per) (hw : ∀ a ∈ w, a < L.length) : led (lenR L.length per) w 0 = w.length % per := by
  have z := led_by (rows := lenR L.length per) (L := L) (f := fun t => t.length % per) (Nat.zero_mod _) (fun t a ha => by
    unfold nextOf lenR
    rw [row_map (Nat.mod_lt _ hp), List.getD_eq_getElem?_getD, List.getElem?_replicate, if_pos ha, List.length_append]
    show (t.length % per + 1) % per = (t.length + 1) % per
    rw [Nat.mod_add_mod]) w hw
  rw [z]
  unfold back
  rw [List.length_map]
theorem len_mach {k per : Nat} {e : List Nat} (hp : 0 < per) (hl : per ≤ 1000) (hk : k ≤ 100) (he : ∀ x ∈ e, x < per) (up : e.Pairwise (· < ·)) : Mach (lenR k per) k e := by
  refine ⟨sq_map hp hl hk (fun i _ => List.length_replicate) fun i _ t ht => ?_, fun x hx => ?_, up⟩
  · rw [List.eq_of_mem_replicate ht]
    exact Nat.mod_lt _ hp
  · unfold lenR
    rw [List.length_map, List.length_range]
    exact he x hx
end Vf

set_option Elab.async false
set_option linter.all false
set_option maxRecDepth 100000
set_option maxHeartbeats 1000000
namespace Vf
open PySem PySem.Spec PyProof.Rows L2 L2.Vx Mk
/-! ### makers: beginnings, finite lots -/
/-- the state of a text: how far it goes along p, the whole, or lost -/
def bgF (p t : List Nat) : Nat := if p <+: t then p.length else if t <+: p then t.length else p.length + 1
def bgRow (L p : List Nat) (at_ : Nat) : List Nat := if at_ < p.length then L.map fun c => if c = p.getD at_ 0 then at_ + 1 else p.length + 1 else if at_ = p.length then List.replicate L.length p.length else List.replicate L.length (p.length + 1)
def bgR (L p : List Nat) : List (List Nat) := (List.range (p.length + 2)).map (bgRow L p)
theorem pre_snoc {p t : List Nat} {c : Nat} : t ++ [c] <+: p ↔ t <+: p ∧ t.length < p.length ∧ p.getD t.length 0 = c := by
  constructor
  · rintro ⟨r, e⟩
    subst e
    refine ⟨⟨[c] ++ r, by rw [List.append_assoc]⟩, by rw [List.length_append, List.length_append]; show _ < _ + 1 + _; omega, ?_⟩
    rw [List.getD_eq_getElem?_getD, List.append_assoc, List.getElem?_append_right (Nat.le_refl _), Nat.sub_self]
    rfl
  · rintro ⟨⟨r, e⟩, h2, h3⟩
    subst e
    cases r with
    | nil =>
      rw [List.append_nil] at h2
      exact absurd h2 (Nat.lt_irrefl _)
    | cons a r =>
      rw [List.getD_eq_getElem?_getD, List.getElem?_append_right (Nat.le_refl _), Nat.sub_self] at h3
      obtain rfl : a = c := h3
      exact ⟨r, by rw [List.append_assoc]; rfl⟩
theorem pre_of_snoc {p t : List Nat} {c : Nat} : p <+: t ++ [c] ↔ p <+: t ∨ p = t ++ [c] := by
  constructor
  · intro h
    rcases List.prefix_concat_iff.mp h with e | e
    · exact .inr e
    · exact .inl e
  · rintro (h | h)
    · exact h.trans (List.prefix_append _ _)
    · rw [h]
      exact List.prefix_rfl
theorem led_begin {L p w : List Nat} (hw : ∀ a ∈ w, a < L.length) : led (bgR L p) w 0 = bgF p (back L w) :=
  led_by (f := bgF p) (by
    unfold bgF
    cases p with
    | nil => rfl
    | cons a p =>
      rw [if_neg (fun h => by have := h.length_le; simp at this), if_pos List.nil_prefix]
      rfl) (fun t a ha => by
    have row : ∀ i, i < p.length + 2 → rowOf (bgR L p) i = bgRow L p i := fun i hi => row_map hi
    have rep : ∀ (i v : Nat), i < p.length + 2 → bgRow L p i = List.replicate L.length v → nextOf (bgR L p) a i = v := fun i v hi e => by
      unfold nextOf
      rw [row i hi, e, List.getD_eq_getElem?_getD, List.getElem?_replicate, if_pos ha]
      rfl
    unfold bgF
    by_cases h1 : p <+: t
    · rw [if_pos h1, if_pos (pre_of_snoc.mpr (.inl h1))]
      refine rep _ _ (by omega) ?_
      unfold bgRow
      rw [if_neg (Nat.lt_irrefl _), if_pos rfl]
    rw [if_neg h1]
    by_cases h2 : t <+: p
    · rw [if_pos h2]
      have lt : t.length < p.length := by
        rcases Nat.lt_or_ge t.length p.length with c | c
        · exact c
        · exact absurd (by rw [List.IsPrefix.eq_of_length h2 (Nat.le_antisymm h2.length_le c)]; exact List.prefix_rfl) h1
      rw [next_map (g := fun c => if c = p.getD t.length 0 then t.length + 1 else p.length + 1) (by
        rw [row _ (by omega)]
        unfold bgRow
        rw [if_pos lt]) ha]
      have l1 : (t ++ [L.getD a 0]).length = t.length + 1 := by rw [List.length_append]; rfl
      by_cases e : L.getD a 0 = p.getD t.length 0
      · show (if L.getD a 0 = p.getD t.length 0 then _ else _) = _
        rw [if_pos e]
        have q : t ++ [L.getD a 0] <+: p := pre_snoc.mpr ⟨h2, lt, e.symm⟩
        by_cases w' : p <+: t ++ [L.getD a 0]
        · rw [if_pos w']
          have := w'.length_le
          have := q.length_le
          omega
        · rw [if_neg w', if_pos q, l1]
      · show (if L.getD a 0 = p.getD t.length 0 then _ else _) = _
        rw [if_neg e]
        have nq : ¬ t ++ [L.getD a 0] <+: p := fun z => e (pre_snoc.mp z).2.2.symm
        have nw : ¬ p <+: t ++ [L.getD a 0] := fun z => by
          rcases pre_of_snoc.mp z with y | y
          · exact h1 y
          · exact nq (by rw [← y]; exact List.prefix_rfl)
        rw [if_neg nw, if_neg nq]
    · rw [if_neg h2]
      have nq : ¬ t ++ [L.getD a 0] <+: p := fun z => h2 (pre_snoc.mp z).1
      have nw : ¬ p <+: t ++ [L.getD a 0] := fun z => by
        rcases pre_of_snoc.mp z with y | y
        · exact h1 y
        · exact nq (by rw [← y]; exact List.prefix_rfl)
      rw [if_neg nw, if_neg nq]
      refine rep _ _ (by omega) ?_
      unfold bgRow
      rw [if_neg (by omega), if_neg (by omega)]) w hw
theorem begin_mach {L p : List Nat} (hp : p.length < 900) (hk : L.length ≤ 100) : Mach (bgR L p) L.length [p.length] := by
  refine ⟨sq_map (by omega) (by omega) hk (fun i _ => ?_) (fun i hi t ht => ?_), fun x hx => ?_, List.pairwise_singleton _ _⟩
  · unfold bgRow
    split
    · exact List.length_map _
    · split <;> exact List.length_replicate
  · unfold bgRow at ht
    split at ht
    · obtain ⟨c, _, rfl⟩ := List.mem_map.mp ht
      split <;> omega
    · split at ht
      · rw [List.eq_of_mem_replicate ht]
        omega
      · rw [List.eq_of_mem_replicate ht]
        omega
  · rw [List.mem_singleton.mp hx]
    unfold bgR
    rw [List.length_map, List.length_range]
    omega
theorem begin_lang {L p w : List Nat} (hw : ∀ a ∈ w, a < L.length) : led (bgR L p) w 0 ∈ [p.length] ↔ p <+: back L w := by
  rw [led_begin hw, List.mem_singleton]
  unfold bgF
  constructor
  · intro h
    by_cases c : p <+: back L w
    · exact c
    · rw [if_neg c] at h
      split at h
      · rename_i e
        rw [List.IsPrefix.eq_of_length e h]
        exact List.prefix_rfl
      · omega
  · intro h
    rw [if_pos h]
/-! #### finite lots: a state for each beginning -/
structure Lot (T : List (List Nat)) : Prop where
  first : T[0]? = some []
  nd : T.Nodup
  closed : ∀ t c, t ++ [c] ∈ T → t ∈ T
def ftF (T : List (List Nat)) (t : List Nat) : Nat := if t ∈ T then T.idxOf t else T.length
def ftR (L : List Nat) (T : List (List Nat)) : List (List Nat) := (List.range (T.length + 1)).map fun i => if i < T.length then L.map fun c => ftF T (T.getD i [] ++ [c]) else List.replicate L.length T.length
theorem led_finite {L : List Nat} {T : List (List Nat)} {w : List Nat} (h : Lot T) (hw : ∀ a ∈ w, a < L.length) : led (ftR L T) w 0 = ftF T (back L w) :=
  led_by (f := ftF T) (by
    have m : ([] : List Nat) ∈ T := List.mem_of_getElem? h.first
    unfold ftF
    rw [if_pos m]
    cases T with
    | nil => nomatch m
    | cons a r =>
      obtain rfl : a = [] := Option.some.inj h.first
      exact List.idxOf_cons_self) (fun t a ha => by
    have row : ∀ i, i < T.length + 1 → rowOf (ftR L T) i = if i < T.length then L.map fun c => ftF T (T.getD i [] ++ [c]) else List.replicate L.length T.length := fun i hi => row_map hi
    by_cases m : t ∈ T
    · have lt := List.idxOf_lt_length_of_mem m
      have e1 : ftF T t = T.idxOf t := if_pos m
      have e2 : T.getD (T.idxOf t) [] = t := by
        rw [List.getD_eq_getElem?_getD, List.getElem?_eq_getElem lt]
        exact List.getElem_idxOf lt
      rw [e1, next_map (g := fun c => ftF T (T.getD (T.idxOf t) [] ++ [c])) (by rw [row _ (by omega), if_pos lt]) ha, e2]
    · have e1 : ftF T t = T.length := if_neg m
      have e3 : ftF T (t ++ [L.getD a 0]) = T.length := if_neg fun z => m (h.closed _ _ z)
      rw [e1, e3]
      unfold nextOf
      rw [row _ (Nat.lt_succ_self _), if_neg (Nat.lt_irrefl _), List.getD_eq_getElem?_getD, List.getElem?_replicate, if_pos ha]
      rfl) w hw
theorem ftF_lt (T : List (List Nat)) (t : List Nat) : ftF T t < T.length + 1 := by
  unfold ftF
  split
  · rename_i m
    have := List.idxOf_lt_length_of_mem m
    omega
  · omega
/-- the states of the texts that are in a lot -/
def ftE (T : List (List Nat)) (ts : List (List Nat)) : List Nat := (List.range T.length).filter fun i => decide (T.getD i [] ∈ ts)
theorem finite_mach {L : List Nat} {T ts : List (List Nat)} (hl : T.length < 1000) (hk : L.length ≤ 100) : Mach (ftR L T) L.length (ftE T ts) := by
  refine ⟨sq_map (by omega) (by omega) hk (fun i _ => ?_) (fun i hi t ht => ?_), fun x hx => ?_, List.Pairwise.filter _ List.pairwise_lt_range⟩
  · split
    · exact List.length_map _
    · exact List.length_replicate
  · split at ht
    · obtain ⟨c, _, rfl⟩ := List.mem_map.mp ht
      exact ftF_lt _ _
    · rw [List.eq_of_mem_replicate ht]
      omega
  · unfold ftR
    rw [List.length_map, List.length_range]
    have := List.mem_range.mp (List.mem_filter.mp hx).1
    omega
theorem finite_lang {L : List Nat} {T ts : List (List Nat)} {w : List Nat} (h : Lot T) (hts : ∀ t ∈ ts, t ∈ T) (hw : ∀ a ∈ w, a < L.length) : led (ftR L T) w 0 ∈ ftE T ts ↔ back L w ∈ ts := by
  rw [led_finite h hw]
  unfold ftE ftF
  rw [List.mem_filter, List.mem_range, decide_eq_true_iff]
  constructor
  · rintro ⟨h1, h2⟩
    by_cases m : back L w ∈ T
    · rw [if_pos m] at h1 h2
      rw [List.getD_eq_getElem?_getD, List.getElem?_eq_getElem h1] at h2
      have e : T[T.idxOf (back L w)] = back L w := List.getElem_idxOf h1
      have h3 : T[T.idxOf (back L w)] ∈ ts := h2
      rw [e] at h3
      exact h3
    · rw [if_neg m] at h1
      exact absurd h1 (Nat.lt_irrefl _)
  · intro m
    have mT := hts _ m
    have lt := List.idxOf_lt_length_of_mem mT
    rw [if_pos mT]
    refine ⟨lt, ?_⟩
    rw [List.getD_eq_getElem?_getD, List.getElem?_eq_getElem lt]
    have e : T[T.idxOf (back L w)] = back L w := List.getElem_idxOf lt
    show T[T.idxOf (back L w)] ∈ ts
    rw [e]
    exact m
end Vf

set_option Elab.async false
set_option linter.all false
set_option maxRecDepth 100000
set_option maxHeartbeats 4000000
namespace Vf
open PySem PySem.Spec PyProof.Rows L2 L2.Vx Vs Vm Vd
/-! ### check: letters and texts, refused -/
abbrev sCk : Stmt := top 47
abbrev sBadLang : Stmt := inClass (top 3) 0
abbrev sBadText : Stmt := inClass (top 5) 0
/-- what is raised bears one value -/
def RefV (C : Addr) (f : Str) (v : V) (H : Hp) (E : XK) : Prop := ∀ d H', H d = none → Same H H' → H' d = some (.xd [(f, v)]) → E (.ref C) (some d) H'
theorem RefV.after {C : Addr} {f : Str} {v : V} {H H1 : Hp} {E : XK} (h : RefV C f v H E) (s : Same H H1) : RefV C f v H1 E := fun d H' n s' e => h d H' (s.free n) (s.trans s') e
theorem RefV.now {C : Addr} {f : Str} {v : V} {H : Hp} {E : XK} (h : RefV C f v H E) {d : Addr} (hd : H d = none) : E (.ref C) (some d) (upd H d (.xd [(f, v)])) := h d _ hd (same_new hd _) upd_same
theorem ty_same {K : PySem.W.Frag} {H H' : Hp} {v : V} {t : Value} (h : TyX K H v t) (s : Same H H') : TyX K H' v t := by
  cases h with
  | base h =>
    refine .base ?_
    cases h with
    | non => exact .non
    | bl x => exact .bl x
    | int x => exact .int x
    | str x => exact .str x
    | flt x => exact .flt x
    | lst e => exact .lst (s _ _ e)
    | frz e => exact .frz (s _ _ e)
    | tup e => exact .tup (s _ _ e)
    | dK e => exact .dK (s _ _ e)
    | dT e => exact .dT (s _ _ e)
    | ins e c1 c2 c3 c4 c5 => exact .ins (s _ _ e) c1 c2 c3 c4 c5
  | byt b => exact .byt b
  | set e => exact .set (s _ _ e)
  | kList e c => exact .kList e c
  | kTuple e c => exact .kTuple e c
  | kDict e c => exact .kDict e c
  | fTuple e => exact .fTuple (s _ _ e)
  | fDict e => exact .fDict (s _ _ e)
theorem strOr_same {K : PySem.W.Frag} {H H' : Hp} {v : V} {y : Option Str} (h : StrOr K H v y) (s : Same H H') : StrOr K H' v y := by
  cases y with
  | some x => exact h
  | none =>
    obtain ⟨t, ht, k⟩ := h
    exact ⟨t, ty_same ht s, k⟩
structure TxtCk (P : Program) (w : World) (K : PySem.W.Frag) (mg : Str → Option Value) (base : Heap) (CB CT : Addr) : Prop where
  zB : ExK P w K mg base CB "part" 1
  gB : mg "BadLanguage" = some (.ref CB)
  zT : ExK P w K mg base CT "value" 1
  gT : mg "BadText" = some (.ref CT)
def okL (y : Option Str) : Bool := y.elim false letB
def okT (a : Str) (y : Option Str) : Bool := y.elim false (wordB a)
def StrsOr (K : PySem.W.Frag) (H : Hp) (xs : List V) (ys : List (Option Str)) : Prop := xs.length = ys.length ∧ ∀ (i : Nat) (x : V) (y : Option Str), xs[i]? = some x → ys[i]? = some y → StrOr K H x y
def spCk (K : PySem.W.Frag) (CB CT : Addr) : Sp := fun vs H Q E => ∃ (v : V) (y : Option Str) (tt : Addr) (xs : List V) (ys : List (Option Str)), vs = [v, .ref tt] ∧ StrOr K H v y ∧ SqT K H tt xs ∧ StrsOr K H xs ys ∧
  (okL y = false → RefV CB "part" (.str "letters") H E) ∧
  (∀ a, y = some a → letB a = true → (∀ (i : Nat) (x : V) (y' : Option Str), xs[i]? = some x → ys[i]? = some y' → okT a y' = false → (∀ (j : Nat) (z : Option Str), j < i → ys[j]? = some z → okT a z = true) → RefV CT "value" x H E) ∧ ((∀ z ∈ ys, okT a z = true) → ∀ H', Same H H' → Q .non H'))
section
variable {P : Program} {w : World} {K : PySem.W.Frag} {mg : Str → Option Value} {base : Heap} {CB CT : Addr}
theorem scCk : FnScope ["letters", "texts", "text"] ["letters", "texts"] (defScope sCk) := ⟨rfl, rfl, rfl, by decide +kernel, rfl, by decide +kernel, by decide +kernel⟩
theorem ok_ck {f fL fT : Addr} {fd fdL fdT : FuncData} (F : Fun K "check" "check" sCk f fd) (T : TxtCk P w K mg base CB CT)
    (GL : FnOk P w K mg base CX0 2 fL fdL ["thing"] (spLet K letB)) (bL : L2.Binds K fdL ["thing"] []) (kL : PySem.W.keepIn K (.ref fL) = true) (mL : mg "is_letters" = some (.ref fL))
    (GT : FnOk P w K mg base CX0 1 fT fdT ["letters", "thing"] (spText K wordB)) (bT : L2.Binds K fdT ["letters", "thing"] []) (kT : PySem.W.keepIn K (.ref fT) = true) (mT : mg "is_text" = some (.ref fT)) :
    FnOk P w K mg base (L2.CX P w) 3 f fd ["letters", "texts"] (spCk K CB CT) := by
  refine F.okX scCk (fun vs H Q E h => ?_) (fun cdv Ar outer s H vs Q E hr h => ?_)
  · obtain ⟨v, y, tt, xs, ys, rfl, _⟩ := h
    rfl
  obtain ⟨v, y, tt, xs, ys, rfl, hv, hq, hxs, q1, q2⟩ := h
  have hr1 : Room 1 _ := hr.mono (by decide)
  refine ⟨_, (pss_cons (ps_if (pt_not (pt_val (pe_call GL hr rfl mL kL bL .nil pass0 (pa_cons (pv 0) pa_nil)))) (pss_one (ps_raise rfl (takes_of rfl rfl rfl rfl) (pmk_exE T.zB hr T.gB pe_str))) pss_nil)
    (pss_one (ps_for (passes_of rfl) rfl (pi_tup (pv 1)) (pg_name (i := 2) scCk.nd rfl (Or.inl rfl)) (pss_one (ps_if (pt_not (pt_val (pe_call GT hr1 rfl mT kT bT .nil pass0 (pa_cons (pv 0) (pa_cons (pv 2) pa_nil))))) (pss_one (ps_raise rfl (takes_of rfl rfl rfl rfl) (pmk_exE T.zT hr T.gT (pv 2)))) pss_nil))))), ?_⟩
  refine ⟨_, rfl, v, y, rfl, hv, fun H1 s1 => ⟨_, rfl, ?_⟩⟩
  cases y with
  | none => exact if_tr rfl ⟨_, rfl, fun d hd => ((q1 rfl).after s1).now hd⟩
  | some a =>
    show if (!letB a) = true then _ else _
    by_cases c : letB a = true
    rotate_left
    · have c' := Bool.eq_false_iff.mpr c
      exact if_tr (by rw [c']; rfl) ⟨_, rfl, fun d hd => ((q1 c').after s1).now hd⟩
    refine if_fl (by rw [c]; rfl) ?_
    obtain ⟨q3, q4⟩ := q2 a rfl c
    obtain ⟨rfl, ha, _⟩ := id hv
    have ha4 : a.length ≤ 4 := by
      have z := c
      unfold letB at z
      rw [Bool.and_eq_true, Bool.and_eq_true, decide_eq_true_iff, decide_eq_true_iff] at z
      exact z.1.2
    refine ⟨_, rfl, tt, rfl, ⟨_, same_T s1 hq⟩, ?_⟩
    refine for_tup (K := K) (a := tt) (xs := xs) (fun i σ H' => ∃ v2 : Option V, σ = [some (.str a), some (.ref tt), v2] ∧ (∀ j z, j < i → ys[j]? = some z → okT a z = true) ∧ Same H H') ⟨none, rfl, (fun j z hj _ => absurd hj (Nat.not_lt_zero j)), s1⟩ (fun i σ H' _ ⟨_, _, _, s⟩ => same_T s hq) ?_ ?_
    · rintro i x σ H2 hx ⟨v2, rfl, hok, s2⟩
      have hi := (List.getElem?_eq_some_iff.mp hx).1
      obtain ⟨y', hy'⟩ : ∃ y', ys[i]? = some y' := ⟨_, List.getElem?_eq_getElem (by rw [← hxs.1]; exact hi)⟩
      have hxy := strOr_same (hxs.2 i x y' hx hy') s2
      refine ⟨_, rfl, _, rfl, a, x, y', rfl, hxy, ha4, fun H3 s3 => ⟨_, rfl, ?_⟩⟩
      show if (!okT a y') = true then _ else _
      by_cases c2 : okT a y' = true
      · refine if_fl (by rw [c2]; rfl) ⟨_, rfl, fun j z hj hz => ?_, s2.trans s3⟩
        rcases Nat.lt_or_ge j i with h | h
        · exact hok j z h hz
        · obtain rfl : j = i := by omega
          rw [hy'] at hz
          obtain rfl := Option.some.inj hz
          exact c2
      · have c2' := Bool.eq_false_iff.mpr c2
        exact if_tr (by rw [c2']; rfl) ⟨_, rfl, _, rfl, fun d hd => ((q3 i x y' hx hy' c2' hok).after (s2.trans s3)).now hd⟩
    · rintro σ H2 ⟨v2, rfl, hok, s2⟩
      refine q4 (fun z hz => ?_) H2 s2
      obtain ⟨j, hj⟩ := List.mem_iff_getElem?.mp hz
      have hj' := (List.getElem?_eq_some_iff.mp hj).1
      exact hok j z (by rw [hxs.1]; exact hj') hj
end
end Vf

set_option Elab.async false
set_option linter.all false
set_option maxRecDepth 100000
set_option maxHeartbeats 4000000
namespace Vf
open PySem PySem.Spec PyProof.Rows L2 L2.Vx Vs Vm Vd Mk
/-! ### matched, matching_rows, frozen -/
abbrev sMd : Stmt := top 48
abbrev sMr : Stmt := top 49
abbrev sFz : Stmt := top 50
theorem ends_with (x y : Str) : Txt.endswith x y = decide (cp y <:+ cp x) := by
  have lx : x.length = (cp x).length := by rw [Array.length_toList]; rfl
  have ly : y.length = (cp y).length := by rw [Array.length_toList]; rfl
  unfold Txt.endswith
  rw [Bool.eq_iff_iff, Bool.and_eq_true, decide_eq_true_iff, decide_eq_true_iff, List.suffix_iff_eq_drop, Nat.zero_add]
  have ex : ∀ i, (x.cps.extract i (i + y.length)).toList = ((cp x).drop i).take y.length := fun i => by
    rw [Array.toList_extract, List.extract_eq_drop_take]
    congr 1
    omega
  constructor
  · rintro ⟨h1, h2⟩
    have e := congrArg Array.toList (eq_of_beq h2)
    rw [ex] at e
    rw [← lx, ← ly]
    have e2 : cp y = List.take y.length (List.drop (x.length - y.length) (cp x)) := e.symm
    rw [e2]
    exact List.take_of_length_le (by rw [List.length_drop]; omega)
  · intro h
    have hl := congrArg List.length h
    rw [List.length_drop] at hl
    refine ⟨by omega, ?_⟩
    show (x.cps.extract (x.length - y.length) (x.length - y.length + y.length) == y.cps) = true
    refine beq_iff_eq.mpr (Array.toList_inj.mp ?_)
    rw [ex, lx, ly, ← h]
    exact List.take_of_length_le (Nat.le_refl _)
theorem eta_S (x : Str) : x = mkS (cp x) := by
  cases x
  rfl
structure TxtMd (mg : Str → Option Value) : Prop where
  len : mg "len" = none
  range : mg "range" = none
  tuple : mg "tuple" = none
def spMd : Sp := fun vs H Q _ => ∃ p t : Str, vs = [.str p, .str t] ∧ p.length ≤ 100000 ∧ Q (nI (mt (cp p) (cp t))) H
section
variable {P : Program} {w : World} {K : PySem.W.Frag} {mg : Str → Option Value} {base : Heap}
theorem scMd : FnScope ["piece", "text", "many"] ["piece", "text"] (defScope sMd) := ⟨rfl, rfl, rfl, by decide +kernel, rfl, by decide +kernel, by decide +kernel⟩
theorem ok_md {f : Addr} {fd : FuncData} (F : Fun K "matched" "matched" sMd f fd) (T : TxtMd mg) : FnOk P w K mg base CX0 1 f fd ["piece", "text"] spMd := by
  refine F.ok scMd (fun vs H Q E h => ?_) (fun cdv Ar outer s H vs Q E hr h => ?_)
  · obtain ⟨p, t, rfl, _⟩ := h
    rfl
  obtain ⟨p, t, rfl, hp, q⟩ := h
  refine ⟨_, (pss_cons (ps_set (i := 2) scMd.nd rfl (Or.inl rfl) (pe_callB call_len_str (by rfl) T.len PySem.boot_len (pa_cons (pv 0) pa_nil)))
    (pss_cons (ps_while PassesOwn.never (pt_not (pt_val (pe_bm PySem.F.plainAttrs_str PySem.F.slot_str_endswith PySem.F.type_str_endswith mt_endswith (pv 1) (pa_cons (pe_slice sl_str (pv 0) po_none (po_some (pv 2))) pa_nil)))) (pss_one (ps_aug (i := 2) scMd.nd rfl (Or.inl rfl) pe_int ip_sub)))
    (pss_one (ps_ret (pv 2))))), ?_⟩
  have lp : p.length = (cp p).length := by rw [Array.length_toList]; rfl
  refine ⟨_, rfl, p, rfl, Nat.le_trans hp (by decide), ?_⟩
  obtain ⟨W, hW⟩ : ∃ W : Nat → L2.St → Hp → Prop, W = fun m σ H' => σ = [some (V.str p), some (V.str t), some (nI m)] ∧ m ≤ p.length ∧ (∀ j, m < j → j ≤ p.length → ¬ (cp p).take j <:+ cp t) ∧ H' = H := ⟨_, rfl⟩
  refine ⟨W, ⟨p.length, by rw [hW]; exact ⟨rfl, Nat.le_refl _, (fun j h1 h2 => by omega), rfl⟩⟩, ?_⟩
  intro m σ H2 hw
  rw [hW] at hw
  obtain ⟨rfl, hm, hno, rfl⟩ := hw
  have e0 : cutS p none (some (m : Int)) = mkS ((cp p).take m) := by
    rw [eta_S p]
    exact cut_head m
  refine ⟨_, rfl, rfl, _, rfl, _, rfl, _, rfl, p, rfl, Nat.le_trans hp (by decide), t, _, rfl, rfl, _, rfl, ?_⟩
  rw [e0, ends_with]
  by_cases c : (cp p).take m <:+ cp t
  · refine if_fl (by rw [decide_eq_true (show cp (mkS ((cp p).take m)) <:+ cp t from c)]; rfl) ?_
    refine ⟨_, rfl, ?_⟩
    have e : mt (cp p) (cp t) = m := mt_eq (by omega) c fun j hj h => by
      rcases Nat.lt_or_ge m j with z | z
      · exact absurd h (hno j z (by omega))
      · exact z
    rw [e] at q
    exact q
  · have hm0 : 0 < m := by
      rcases Nat.eq_zero_or_pos m with z | z
      · refine absurd ?_ c
        rw [z, List.take_zero]
        exact List.nil_suffix
      · exact z
    refine if_tr (by rw [decide_eq_false (show ¬ cp (mkS ((cp p).take m)) <:+ cp t from c)]; rfl) ⟨W (m - 1), fun _ _ h => ⟨_, by omega, h⟩, ?_⟩
    refine ⟨_, rfl, _, _, rfl, rfl, ?_⟩
    rw [hW]
    refine ⟨?_, by omega, fun j h1 h2 => ?_, rfl⟩
    · show [_, _, some (V.int ((m : Int) - 1))] = _
      rw [show (m : Int) - 1 = ((m - 1 : Nat) : Int) by omega]
    · rcases Nat.lt_or_ge m j with z | z
      · exact hno j z h2
      · obtain rfl : j = m := by omega
        exact c
end
end Vf

set_option Elab.async false
set_option linter.all false
set_option maxRecDepth 100000
set_option maxHeartbeats 4000000
namespace Vf
open PySem PySem.Spec PyProof.Rows L2 L2.Vx Vs Vm Vd Mk
/-! ### rows as lists of lists -/
def NLs (H : Hp) (bs : List V) (rows : List (List Nat)) : Prop := bs.length = rows.length ∧ ∀ (i : Nat) (b : V) (r : List Nat), bs[i]? = some b → rows[i]? = some r → ∃ q, b = .ref q ∧ H q = some (.lst (r.map nI))
theorem NLs.nil (H : Hp) : NLs H [] [] := ⟨rfl, fun i b r e => by simp at e⟩
/-- lists keep what they hold but at D -/
theorem NLs.keep {H H' : Hp} {bs : List V} {rows : List (List Nat)} (h : NLs H bs rows) (s : ∀ q xs, H q = some (.lst xs) → (V.ref q) ∈ bs → H' q = some (.lst xs)) : NLs H' bs rows :=
  ⟨h.1, fun i b r e1 e2 => by
    obtain ⟨q, rfl, hq⟩ := h.2 i b r e1 e2
    exact ⟨q, rfl, s q _ hq (List.mem_of_getElem? e1)⟩⟩
theorem NLs.same {H H' : Hp} {bs : List V} {rows : List (List Nat)} (h : NLs H bs rows) (s : Same H H') : NLs H' bs rows := h.keep fun q xs e _ => s _ _ e
theorem NLs.snoc {H : Hp} {bs : List V} {rows : List (List Nat)} {q : Addr} {r : List Nat} (h : NLs H bs rows) (hq : H q = some (.lst (r.map nI))) : NLs H (bs ++ [.ref q]) (rows ++ [r]) := by
  refine ⟨by rw [List.length_append, List.length_append, h.1]; rfl, fun i b p' e1 e2 => ?_⟩
  rcases Nat.lt_trichotomy i bs.length with z | z | z
  · rw [List.getElem?_append_left z] at e1
    rw [List.getElem?_append_left (by rw [← h.1]; exact z)] at e2
    exact h.2 i b p' e1 e2
  · subst z
    have e1' : some (V.ref q) = some b := by simpa using e1
    have e2' : some r = some p' := by rw [h.1] at e2; simpa using e2
    obtain rfl := Option.some.inj e1'
    obtain rfl := Option.some.inj e2'
    exact ⟨q, rfl, hq⟩
  · have := (List.getElem?_eq_some_iff.mp e1).1
    rw [List.length_append] at this
    have : ([V.ref q] : List V).length = 1 := rfl
    omega
def LRowsAt (H : Hp) (l : Addr) (rows : List (List Nat)) : Prop := ∃ bs, H l = some (.lst bs) ∧ NLs H bs rows
theorem LRowsAt.same {H H' : Hp} {l : Addr} {rows : List (List Nat)} (h : LRowsAt H l rows) (s : Same H H') : LRowsAt H' l rows := by
  obtain ⟨bs, h1, h2⟩ := h
  exact ⟨bs, s _ _ h1, h2.same s⟩
def spFz : Sp := fun vs H Q _ => ∃ (l : Addr) (R : List (List Nat)), vs = [.ref l] ∧ LRowsAt H l R ∧ R.length ≤ 2000 ∧ ∀ (v : V) H', Same H H' → MRowsAt H' v R → Q v H'
def spMr : Sp := fun vs H Q _ => ∃ a p : Str, vs = [.str a, .str p] ∧ a.length ≤ 4 ∧ p.length ≤ 1000 ∧ ∀ (l : Addr) H', Same H H' → LRowsAt H' l (matchR (cp a) (cp p)) → Q (.ref l) H'
abbrev nMr : List Str := ["letters", "piece", "many", "letter"]
abbrev scInMr : Scope := { kind := .function, names := [(".0", .local), ("many", .cell), ("letters", .cell), ("piece", .cell)], isGenerator := false, isCoroutine := false, more := [] }
section
variable {P : Program} {w : World} {K : PySem.W.Frag} {mg : Str → Option Value} {base : Heap}
theorem scFz : FnScope ["rows", "row"] ["rows"] (defScope sFz) := ⟨rfl, rfl, rfl, by decide +kernel, rfl, by decide +kernel, by decide +kernel⟩
theorem ok_fz {f : Addr} {fd : FuncData} (F : Fun K "frozen" "frozen" sFz f fd) (T : TxtMd mg) : FnOk P w K mg base CX0 1 f fd ["rows"] spFz := by
  refine F.ok scFz (fun vs H Q E h => ?_) (fun cdv Ar outer s H vs Q E hr h => ?_)
  · obtain ⟨l, R, rfl, _⟩ := h
    rfl
  obtain ⟨l, R, rfl, hR, few, q⟩ := h
  refine ⟨_, (pss_one (ps_ret (pe_callTy call_tuple_of (by rfl) T.tuple (by decide +kernel) (pa_cons (pe_lc (own := [("row", 1)]) (g := gName 1) (tt := tYes) rfl scFz.nd (pi_list (pv 0)) (blkOk_by (N := ["rows", "row"]) (sc := defScope sFz) (by decide +kernel)) (fun _ _ _ _ _ => by exact (pg_name (i := 1) scFz.nd rfl (Or.inl rfl))) (fun _ _ _ _ _ => pts_nil) (fun _ _ _ _ _ => by exact (pe_callTy (tupOf_at (K := K) rfl) (by rfl) T.tuple (by decide +kernel) (pa_cons (pv 1) pa_nil)))) pa_nil)))), ?_⟩
  obtain ⟨bs, hl, hN⟩ := hR
  refine ⟨_, rfl, l, rfl, ⟨_, SqL.of hl⟩, fun D hD => ?_⟩
  refine lc_it (walk_list (xs := bs)) (fun i H' => ∃ cs, H' D = some (.lst cs) ∧ NRows H' cs (R.take i) ∧ Same H H') ⟨[], upd_same, NRows.nil _, same_new hD _⟩ (fun i H' _ ⟨_, _, _, s⟩ => SqL.of (s _ _ hl)) ?_ ?_
  · rintro i v H5 H6 hi ⟨cs, n1, n2, s5⟩ ⟨rfl, hv⟩
    have hiR : i < R.length := by rw [← hN.1]; exact hi
    obtain ⟨r, hr'⟩ : ∃ r, R[i]? = some r := ⟨_, List.getElem?_eq_getElem hiR⟩
    obtain ⟨p, rfl, hp⟩ := hN.2 i v r hv hr'
    refine ⟨rfl, _, rfl, p, _, rfl, .inl ⟨SqL.of (s5 _ _ hp), fun t ht => ?_⟩⟩
    have st := same_new ht (.tup (r.map nI))
    refine ⟨_, st _ _ n1, ?_, cs ++ [.ref t], upd_same, ?_, fun b' o' e' => ?_⟩
    · rw [n2.1]
      refine Nat.lt_of_le_of_lt (List.length_take_le' _ _) ?_
      rw [sizeLine_eq]
      omega
    · rw [List.take_add_one, hr']
      exact ((n2.tk (tk_same st)).snoc ⟨t, rfl, upd_same⟩).tk (tk_put (st _ _ n1) _)
    · rw [upd_ne (ne_of_none e' hD)]
      exact st _ _ (s5 _ _ e')
  rintro H5 ⟨cs, n1, n2, s5⟩
  rw [hN.1, List.take_length] at n2
  refine ⟨D, _, rfl, .inl ⟨SqL.of n1, fun t ht => ?_⟩⟩
  have st := same_new ht (.tup cs)
  exact q (.ref t) _ (s5.trans st) ((n2.tk (tk_same st)).tup upd_same)
theorem scMr : FnScope nMr ["letters", "piece"] (defScope sMr) := ⟨rfl, rfl, rfl, by decide +kernel, rfl, by decide +kernel, by decide +kernel⟩
theorem ok_mr {f fM : Addr} {fd fdM : FuncData} (F : Fun K "matching_rows" "matching_rows" sMr f fd) (T : TxtMd mg)
    (GM : FnOk P w K mg base CX0 1 fM fdM ["piece", "text"] spMd) (bM : L2.Binds K fdM ["piece", "text"] []) (kM : PySem.W.keepIn K (.ref fM) = true) (mM : mg "matched" = some (.ref fM)) :
    FnOk P w K mg base CX0 2 f fd ["letters", "piece"] spMr := by
  refine F.ok scMr (fun vs H Q E h => ?_) (fun cdv Ar outer s H vs Q E hr h => ?_)
  · obtain ⟨a, p, rfl, _⟩ := h
    rfl
  obtain ⟨a, p, rfl, ha, hp, q⟩ := h
  refine ⟨_, (pss_one (ps_ret (pe_lc (own := [("many", 2)]) (g := gName 2) (tt := tYes) rfl scMr.nd (pi_range1 rfl T.range (pa_cons (pe_op op_add (pe_callB call_len_str (by rfl) T.len PySem.boot_len (pa_cons (pv 1) pa_nil)) pe_int) pa_nil)) (blkOk_by (N := nMr) (sc := defScope sMr) (by decide +kernel)) (fun _ _ _ _ _ => by exact (pg_name (i := 2) scMr.nd rfl (Or.inr rfl))) (fun _ _ _ _ _ => pts_nil)
    (fun _ _ _ _ _ => by exact (pe_lc (own := [("letter", 3)]) (g := gName 3) (tt := tYes) rfl scMr.nd (pi_str (pv 0)) (blkOk_by (N := nMr) (sc := scInMr) (by decide +kernel)) (fun _ _ _ _ _ => by exact (pg_name (i := 3) scMr.nd rfl (Or.inl rfl))) (fun _ _ _ _ _ => pts_nil)
      (fun _ _ _ _ _ => by exact pe_call GM hr rfl mM kM bM .nil pass0 (pa_cons (pv 1) (pa_cons (pe_op op_add_str (pe_slice sl_str (pv 1) po_none (po_some (pv 2))) (pv 3)) pa_nil)))))))), ?_⟩
  have lp : p.length = (cp p).length := by rw [Array.length_toList]; rfl
  have la : a.length = (cp a).length := by rw [Array.length_toList]; rfl
  have eN : ((p.length : Int) + 1).toNat = p.length + 1 := by omega
  have mlen : (matchR (cp a) (cp p)).length = p.length + 1 := by unfold matchR; rw [List.length_map, List.length_range, ← lp]
  refine ⟨_, rfl, p, rfl, Nat.le_trans hp (by decide), _, _, rfl, rfl, ((p.length : Int) + 1), rfl, by omega, by omega, fun D hD => ?_⟩
  refine lc_range (lo := 0) (n := ((p.length : Int) + 1).toNat) (fun i H' => ∃ bs, H' D = some (.lst bs) ∧ NLs H' bs ((matchR (cp a) (cp p)).take i) ∧ V.ref D ∉ bs ∧ Same H H') ⟨[], upd_same, NLs.nil _, (fun h => nomatch h), same_new hD _⟩ ?_ ?_
  · rintro i H2 hi ⟨bs, n1, n2, n3, s2⟩
    rw [eN] at hi
    rw [show (0 : Int) + (i : Nat) = (i : Nat) from Int.zero_add _]
    obtain ⟨row, hrow⟩ : ∃ row, row = (cp a).map fun c => mt (cp p) ((cp p).take i ++ [c]) := ⟨_, rfl⟩
    have hri : (matchR (cp a) (cp p))[i]? = some row := by
      unfold matchR
      rw [List.getElem?_map, List.getElem?_range (by omega), hrow]
      rfl
    refine ⟨rfl, _, rfl, a, rfl, fun D2 hD2 => ?_⟩
    have hne : D2 ≠ D := (ne_of_none n1 hD2).symm
    refine lc_it walk_str (fun j H' => H' D2 = some (.lst ((row.take j).map nI)) ∧ Same H2 H') ⟨upd_same, same_new hD2 _⟩ (fun _ _ _ _ => trivial) ?_ ?_
    · rintro j y H5 H6 hj ⟨m1, m2⟩ ⟨rfl, c, hc, rfl⟩
      have hc' : (cp a)[j]? = some c := by rw [Array.getElem?_toList]; exact hc
      have e0 : cutS p none (some (i : Int)) = mkS ((cp p).take i) := by
        rw [eta_S p]
        exact cut_head i
      refine ⟨rfl, _, rfl, _, rfl, _, rfl, _, rfl, p, rfl, Nat.le_trans hp (by decide), _, rfl, _, _, rfl, rfl, ?_, p, _, rfl, Nat.le_trans hp (by decide), _, m1, ?_, ?_, fun b' o' e' => ?_⟩
      · rw [e0]
        show ((cp p).take i).toArray.size + 1 ≤ _
        rw [List.size_toArray]
        have := List.length_take_le i (cp p)
        exact Nat.le_trans (show _ ≤ 2000 by omega) (by decide)
      · rw [List.length_map]
        refine Nat.lt_of_le_of_lt (List.length_take_le' _ _) ?_
        rw [hrow, List.length_map, ← la]
        exact Nat.lt_of_le_of_lt ha (by decide)
      · have hrj : row[j]? = some (mt (cp p) ((cp p).take i ++ [c])) := by rw [hrow, List.getElem?_map, hc']; rfl
        rw [upd_same, List.take_add_one, hrj, List.map_append, e0]
        have e1 : cp (mkS ((cp p).take i) ++ (⟨#[c]⟩ : Str)) = (cp p).take i ++ [c] := by
          show (((cp p).take i).toArray ++ #[c]).toList = _
          simp
        rw [e1]
        rfl
      · rw [upd_ne (ne_of_none e' hD2)]
        exact m2 _ _ e'
    · rintro H5 ⟨m1, m2⟩
      have m1 : H5 D2 = some (.lst (row.map nI)) := by
        rw [m1, List.take_of_length_le]
        rw [hrow, List.length_map]
        exact Nat.le_of_eq (by rw [Array.length_toList])
      have n1' := m2 _ _ n1
      refine ⟨_, n1', ?_, bs ++ [.ref D2], upd_same, ?_, fun z => ?_, fun b' o' e' => ?_⟩
      · rw [n2.1]
        refine Nat.lt_of_le_of_lt (List.length_take_le' _ _) ?_
        rw [mlen]
        exact Nat.lt_of_le_of_lt (show _ ≤ 1001 by omega) (by decide)
      · rw [List.take_add_one, hri]
        refine ((n2.same m2).snoc m1).keep fun q' xs e hb => ?_
        have : q' ≠ D := fun z => by
          subst z
          rcases List.mem_append.mp hb with h | h
          · exact n3 h
          · exact hne (V.ref.inj (List.mem_singleton.mp h)).symm
        rw [upd_ne this]
        exact e
      · rcases List.mem_append.mp z with h | h
        · exact n3 h
        · exact hne (V.ref.inj (List.mem_singleton.mp h)).symm
      · rw [upd_ne (ne_of_none e' hD)]
        exact m2 _ _ (s2 _ _ e')
  · rintro H5 ⟨bs, n1, n2, n3, s5⟩
    rw [eN, ← mlen, List.take_length] at n2
    exact q D H5 s5 ⟨bs, n1, n2⟩
end
end Vf

set_option Elab.async false
set_option linter.all false
set_option maxRecDepth 100000
set_option maxHeartbeats 4000000
namespace Vf
open PySem PySem.Spec PyProof.Rows L2 L2.Vx Vs Vm Vd Mk
/-! ### ending -/
abbrev sEg : Stmt := top 54
theorem least_le {A B : List (List Nat)} {k : Nat} {e eB : List Nat} (h : Least B k eB) (sq : Square A k) (same : ∀ w : List Nat, (∀ a ∈ w, a < k) → (led B w 0 ∈ eB ↔ led A w 0 ∈ e)) : B.length ≤ A.length := by
  have hw : ∀ p, ∃ w : List Nat, p < B.length → (∀ a ∈ w, a < k) ∧ led B w 0 = p := fun p => by
    by_cases c : p < B.length
    · obtain ⟨w, h1, h2⟩ := h.met.2 p (List.mem_range.mpr c)
      exact ⟨w, fun _ => ⟨h1, h2⟩⟩
    · exact ⟨[], fun z => absurd z c⟩
  have hf : ∃ f : Nat → List Nat, ∀ p, p < B.length → (∀ a ∈ f p, a < k) ∧ led B (f p) 0 = p := ⟨fun p => Classical.choose (hw p), fun p => Classical.choose_spec (hw p)⟩
  obtain ⟨f, hf⟩ := hf
  have z := nodup_lt A.length ((List.range B.length).map fun p => led A (f p) 0) ?_ fun x hx => ?_
  · rw [List.length_map, List.length_range] at z
    exact z
  · refine List.pairwise_map.mpr (List.Pairwise.imp_of_mem (fun {p q} hp hq ne z => ne ?_) List.nodup_range)
    obtain ⟨p1, p2⟩ := hf p (List.mem_range.mp hp)
    obtain ⟨q1, q2⟩ := hf q (List.mem_range.mp hq)
    refine h.parted p q (List.mem_range.mp hp) (List.mem_range.mp hq) fun w hw => ?_
    have a := same (f p ++ w) (app_lt p1 hw)
    have b := same (f q ++ w) (app_lt q1 hw)
    rw [led_app, led_app, p2] at a
    rw [led_app, led_app, q2] at b
    rw [a, b, z]
  · obtain ⟨p, hp, rfl⟩ := List.mem_map.mp hx
    exact led_lt sq _ _ (hf p (List.mem_range.mp hp)).1 sq.some
/-- a language over a with its least machine -/
structure LG (C : Addr) (H : Hp) (p : Addr) (a : Str) (A : List (List Nat)) (e : List Nat) : Prop where
  at_ : LangL C H p a A e
  ok : Least A a.length e
structure Abc (a : Str) : Prop where
  lets : letB a = true
  asc : ∀ c ∈ cp a, c < 128
theorem LG.same {C : Addr} {H H' : Hp} {p : Addr} {a : Str} {A : List (List Nat)} {e : List Nat} (h : LG C H p a A e) (s : Same H H') : LG C H' p a A e := ⟨h.at_.same s, h.ok⟩
theorem LG.mach {C : Addr} {H : Hp} {p : Addr} {a : Str} {A : List (List Nat)} {e : List Nat} (h : LG C H p a A e) : Mach A a.length e := least_mach h.ok
/-- the words of a machine -/
def Wd (A : List (List Nat)) (e w : List Nat) : Bool := decide (led A w 0 ∈ e)
theorem Abc.four {a : Str} (X : Abc a) : 1 ≤ a.length ∧ a.length ≤ 4 := by
  have z := X.lets
  unfold letB at z
  rw [Bool.and_eq_true, Bool.and_eq_true, decide_eq_true_iff, decide_eq_true_iff] at z
  exact z.1
/-- a maker of one text: what is refused, and what is made -/
def spOne (K : PySem.W.Frag) (C CB CT : Addr) (lang : List Nat → List Nat → Prop) : Sp := fun vs H Q E => ∃ (v tv : V) (yl yt : Option Str), vs = [v, tv] ∧ StrOr K H v yl ∧ StrOr K H tv yt ∧ (∀ p, yt = some p → p.length ≤ 200) ∧
  (okL yl = false → RefV CB "part" (.str "letters") H E) ∧
  (∀ a, yl = some a → letB a = true → (okT a yt = false → RefV CT "value" tv H E) ∧
    (∀ p, yt = some p → wordB a p = true → ∀ (q : Addr) (R : List (List Nat)) (eR : List Nat) H', Same H H' → LG C H' q a R eR → (∀ w : List Nat, (∀ i ∈ w, i < a.length) → (Wd R eR w = true ↔ lang (cp p) (back (cp a) w))) → R.length ≤ 900 → Q (.ref q) H'))
structure TxtMk (K : PySem.W.Frag) (mg : Str → Option Value) (C : Addr) : Prop extends TxtMd mg where
  gL : mg "Language" = some (.ref C)
section
variable {P : Program} {w : World} {K : PySem.W.Frag} {mg : Str → Option Value} {base : Heap} {C CB CT : Addr}
theorem scEg : FnScope ["letters", "text"] ["letters", "text"] (defScope sEg) := ⟨rfl, rfl, rfl, by decide +kernel, rfl, by decide +kernel, by decide +kernel⟩
theorem ok_eg {f fC fF fM fI : Addr} {fd fdC fdF fdM fdI : FuncData} (F : Fun K "ending" "ending" sEg f fd) (T : TxtMk K mg C)
    (GC : FnOk P w K mg base (L2.CX P w) 3 fC fdC ["letters", "texts"] (spCk K CB CT)) (bC : L2.Binds K fdC ["letters", "texts"] []) (kC : PySem.W.keepIn K (.ref fC) = true) (mC : mg "check" = some (.ref fC))
    (GF : FnOk P w K mg base CX0 1 fF fdF ["rows"] spFz) (bF : L2.Binds K fdF ["rows"] []) (kF : PySem.W.keepIn K (.ref fF) = true) (mF : mg "frozen" = some (.ref fF))
    (GM : FnOk P w K mg base CX0 2 fM fdM ["letters", "piece"] spMr) (bM : L2.Binds K fdM ["letters", "piece"] []) (kM : PySem.W.keepIn K (.ref fM) = true) (mM : mg "matching_rows" = some (.ref fM))
    (M : Mk K C fI) (GI : FnOk P w K mg base CX0 5 fI fdI ["self", "letters", "rows", "ends"] (spLMake C)) (bI : L2.Binds K fdI ["self", "letters", "rows", "ends"] []) :
    FnOk P w K mg base (L2.CX P w) 7 f fd ["letters", "text"] (spOne K C CB CT fun p t => p <:+ t) := by
  refine F.okX scEg (fun vs H Q E h => ?_) (fun cdv Ar outer s H vs Q E hr h => ?_)
  · obtain ⟨v, tv, yl, yt, rfl, _⟩ := h
    rfl
  obtain ⟨v, tv, yl, yt, rfl, hv, ht, hlen, q1, q2⟩ := h
  have hr1 : Room 1 _ := hr.mono (by decide)
  have hr2 : Room 2 _ := hr.mono (by decide)
  have hr3 : Room 3 _ := hr.mono (by decide)
  refine ⟨_, (pss_cons (ps_expr (pe_call GC hr3 rfl mC kC bC .nil (passes_call (takes_of rfl rfl rfl rfl) (fun _ _ _ _ h => h)) (pa_cons (pv 0) (pa_cons (pe_tup (pa_cons (pv 1) pa_nil)) pa_nil))))
    (pss_one (ps_ret (pe_make M GI hr (by rfl) T.gL bI .nil pass0 (pa_cons (pv 0) (pa_cons (pe_call GF hr1 rfl mF kF bF .nil pass0 (pa_cons (pe_call GM hr2 rfl mM kM bM .nil pass0 (pa_cons (pv 0) (pa_cons (pv 1) pa_nil))) pa_nil)) (pa_cons (pe_tup (pa_cons (pe_callB call_len_str (by rfl) T.len PySem.boot_len (pa_cons (pv 1) pa_nil)) pa_nil)) pa_nil))))))), ?_⟩
  refine ⟨_, rfl, _, rfl, (by show 1 ≤ sizeLine; decide), fun tt htt => ?_⟩
  have s1 := same_new htt (.tup [tv])
  refine ⟨v, yl, tt, [tv], [yt], rfl, strOr_same hv s1, SqT.of upd_same, ⟨rfl, fun i x y e1 e2 => ?_⟩, fun c => (q1 c).after s1, fun a e c => ⟨fun i x y' e1 e2 c2 _ => ?_, fun all H2 s2 => ?_⟩⟩
  · cases i with
    | zero =>
      obtain rfl := Option.some.inj e1
      obtain rfl := Option.some.inj e2
      exact strOr_same ht s1
    | succ i => simp at e1
  · cases i with
    | zero =>
      obtain rfl := Option.some.inj e1
      obtain rfl := Option.some.inj e2
      exact ((q2 a e c).1 c2).after s1
    | succ i => simp at e1
  · subst e
    have ok := all yt (List.mem_singleton.mpr rfl)
    cases yt with
    | none => exact nomatch (show false = true from ok)
    | some p =>
      obtain ⟨rfl, hp, h8p⟩ := id ht
      obtain ⟨rfl, ha, h8⟩ := id hv
      have X : Abc a := ⟨c, h8⟩
      obtain ⟨x1, x4⟩ := X.four
      have pl := hlen p rfl
      have la : (cp a).length = a.length := by rw [Array.length_toList]; rfl
      have lp : (cp p).length = p.length := by rw [Array.length_toList]; rfl
      refine ⟨_, rfl, _, rfl, _, rfl, a, p, rfl, x4, by omega, fun l H3 s3 hR => ?_⟩
      refine ⟨l, _, rfl, hR, ?_, fun vr H4 s4 hM => ?_⟩
      · unfold matchR
        rw [List.length_map, List.length_range]
        omega
      refine ⟨_, rfl, p, rfl, Nat.le_trans hp (by decide), (by show 1 ≤ sizeLine; decide), fun te hte => ?_⟩
      have s5 := same_new hte (.tup [V.int (p.length : Nat)])
      have Mm : Mach (matchR (cp a) (cp p)) a.length [p.length] := by
        have z := ending_mach (L := cp a) (p := cp p) (by omega) (by omega)
        rw [la, lp] at z
        exact z
      refine fun x px hx hpx hpne => lang_make Mm X.lets X.asc (hM.same s5) ⟨te, rfl, upd_same⟩ hx hpx hpne fun B1 e1 H5 s6 hL K1 K2 => ⟨rfl, ?_⟩
      refine (q2 a rfl c).2 p rfl ok x B1 e1 H5 ((((s1.trans s2).trans s3).trans (s4.trans s5)).trans s6) ⟨hL, K1⟩ (fun w hw => ?_) ?_
      · have z := ending_lang (L := cp a) (p := cp p) (w := w) (by rw [la]; exact hw)
        rw [lp] at z
        unfold Wd
        rw [decide_eq_true_iff]
        exact (K2 w hw).trans z
      · have z := least_le K1 Mm.sq K2
        have : (matchR (cp a) (cp p)).length = p.length + 1 := by unfold matchR; rw [List.length_map, List.length_range, lp]
        omega
end
end Vf

set_option Elab.async false
set_option linter.all false
set_option maxRecDepth 100000
set_option maxHeartbeats 4000000
namespace Vf
open PySem PySem.Spec PyProof.Rows L2 L2.Vx Vs Vm Vd Mk
/-! ### beginning -/
abbrev sBg : Stmt := top 53
abbrev nBg : List Str := ["letters", "text", "whole", "dead", "rows", "at", "letter"]
abbrev scInBg : Scope := { kind := .function, names := [(".0", .local), ("at", .cell), ("dead", .cell), ("letters", .cell), ("text", .cell)], isGenerator := false, isCoroutine := false, more := [] }
theorem flat_rep {α : Type} (n : Nat) (x : α) : (List.replicate n [x]).flatten = List.replicate n x := by
  induction n with
  | zero => rfl
  | succ n ih => rw [List.replicate_succ, List.flatten_cons, ih, List.replicate_succ]; rfl
theorem bgR_split (L p : List Nat) : bgR L p = (List.range p.length).map (bgRow L p) ++ [List.replicate L.length p.length, List.replicate L.length (p.length + 1)] := by
  unfold bgR
  rw [show p.length + 2 = (p.length + 1) + 1 from rfl, List.range_succ, List.range_succ, List.map_append, List.map_append, List.append_assoc]
  congr 1
  show [bgRow L p p.length] ++ [bgRow L p (p.length + 1)] = _
  unfold bgRow
  rw [if_neg (Nat.lt_irrefl _), if_pos rfl, if_neg (by omega), if_neg (by omega)]
  rfl
section
variable {P : Program} {w : World} {K : PySem.W.Frag} {mg : Str → Option Value} {base : Heap} {C CB CT : Addr}
theorem scBg : FnScope nBg ["letters", "text"] (defScope sBg) := ⟨rfl, rfl, rfl, by decide +kernel, rfl, by decide +kernel, by decide +kernel⟩
theorem ok_bg {f fC fF fI : Addr} {fd fdC fdF fdI : FuncData} (F : Fun K "beginning" "beginning" sBg f fd) (T : TxtMk K mg C)
    (GC : FnOk P w K mg base (L2.CX P w) 3 fC fdC ["letters", "texts"] (spCk K CB CT)) (bC : L2.Binds K fdC ["letters", "texts"] []) (kC : PySem.W.keepIn K (.ref fC) = true) (mC : mg "check" = some (.ref fC))
    (GF : FnOk P w K mg base CX0 1 fF fdF ["rows"] spFz) (bF : L2.Binds K fdF ["rows"] []) (kF : PySem.W.keepIn K (.ref fF) = true) (mF : mg "frozen" = some (.ref fF))
    (M : Mk K C fI) (GI : FnOk P w K mg base CX0 5 fI fdI ["self", "letters", "rows", "ends"] (spLMake C)) (bI : L2.Binds K fdI ["self", "letters", "rows", "ends"] []) :
    FnOk P w K mg base (L2.CX P w) 7 f fd ["letters", "text"] (spOne K C CB CT fun p t => p <+: t) := by
  refine F.okX scBg (fun vs H Q E h => ?_) (fun cdv Ar outer s H vs Q E hr h => ?_)
  · obtain ⟨v, tv, yl, yt, rfl, _⟩ := h
    rfl
  obtain ⟨v, tv, yl, yt, rfl, hv, ht, hlen, q1, q2⟩ := h
  have hr1 : Room 1 _ := hr.mono (by decide)
  have hr3 : Room 3 _ := hr.mono (by decide)
  refine ⟨_, (pss_cons (ps_expr (pe_call GC hr3 rfl mC kC bC .nil (passes_call (takes_of rfl rfl rfl rfl) (fun _ _ _ _ h => h)) (pa_cons (pv 0) (pa_cons (pe_tup (pa_cons (pv 1) pa_nil)) pa_nil))))
    (pss_cons (ps_set (i := 2) scBg.nd rfl (Or.inl rfl) (pe_callB call_len_str (by rfl) T.len PySem.boot_len (pa_cons (pv 1) pa_nil)))
    (pss_cons (ps_set (i := 3) scBg.nd rfl (Or.inr rfl) (pe_op op_add (pv 2) pe_int))
    (pss_cons (ps_setLc (i := 4) (own := [("at", 5)]) (g := gName 5) (tt := tYes) rfl scBg.nd rfl rfl (sw_true rfl rfl rfl (by decide +kernel)) (pi_range1 rfl T.range (pa_cons (pv 2) pa_nil)) (blkOk_by (N := nBg) (sc := defScope sBg) (by decide +kernel)) (fun _ _ _ _ _ => by exact (pg_name (i := 5) scBg.nd rfl (Or.inr rfl))) (fun _ _ _ _ _ => pts_nil)
      (fun _ _ _ _ _ => by exact (pe_lc (own := [("letter", 6)]) (g := gName 6) (tt := tYes) rfl scBg.nd (pi_str (pv 0)) (blkOk_by (N := nBg) (sc := scInBg) (by decide +kernel)) (fun _ _ _ _ _ => by exact (pg_name (i := 6) scBg.nd rfl (Or.inl rfl))) (fun _ _ _ _ _ => pts_nil)
        (fun _ _ _ _ _ => by exact (pe_ifExp (pt_cmpR op_eq (pv 6) (pe_ix ix_str (pv 1) (pv 5) (fun _ _ => rfl)) (nomark _)) (pe_op op_add (pv 5) pe_int) (pv 3))))))
    (pss_cons (ps_set (i := 4) scBg.nd rfl (Or.inl rfl) (pe_op op_cat (pv 4) (pe_lst (pa_cons (pe_op op_rep (pe_lst (pa_cons (pv 2) pa_nil)) (pe_callB call_len_str (by rfl) T.len PySem.boot_len (pa_cons (pv 0) pa_nil))) (pa_cons (pe_op op_rep (pe_lst (pa_cons (pv 3) pa_nil)) (pe_callB call_len_str (by rfl) T.len PySem.boot_len (pa_cons (pv 0) pa_nil))) pa_nil)))))
    (pss_one (ps_ret (pe_make M GI hr (by rfl) T.gL bI .nil pass0 (pa_cons (pv 0) (pa_cons (pe_call GF hr1 rfl mF kF bF .nil pass0 (pa_cons (pv 4) pa_nil)) (pa_cons (pe_tup (pa_cons (pv 2) pa_nil)) pa_nil))))))))))), ?_⟩
  refine ⟨_, rfl, _, rfl, (by show 1 ≤ sizeLine; decide), fun tt htt => ?_⟩
  have s1 := same_new htt (.tup [tv])
  refine ⟨v, yl, tt, [tv], [yt], rfl, strOr_same hv s1, SqT.of upd_same, ⟨rfl, fun i x y e1 e2 => ?_⟩, fun c => (q1 c).after s1, fun a e c => ⟨fun i x y' e1 e2 c2 _ => ?_, fun all H2 s2 => ?_⟩⟩
  · cases i with
    | zero =>
      obtain rfl := Option.some.inj e1
      obtain rfl := Option.some.inj e2
      exact strOr_same ht s1
    | succ i => simp at e1
  · cases i with
    | zero =>
      obtain rfl := Option.some.inj e1
      obtain rfl := Option.some.inj e2
      exact ((q2 a e c).1 c2).after s1
    | succ i => simp at e1
  · subst e
    have ok := all yt (List.mem_singleton.mpr rfl)
    cases yt with
    | none => exact nomatch (show false = true from ok)
    | some p =>
      obtain ⟨rfl, hp, h8p⟩ := id ht
      obtain ⟨rfl, ha, h8⟩ := id hv
      have X : Abc a := ⟨c, h8⟩
      obtain ⟨x1, x4⟩ := X.four
      have pl := hlen p rfl
      have la : (cp a).length = a.length := by rw [Array.length_toList]; rfl
      have lp : (cp p).length = p.length := by rw [Array.length_toList]; rfl
      refine ⟨_, rfl, p, rfl, Nat.le_trans hp (by decide), _, rfl, _, _, rfl, rfl, ?_⟩
      refine ⟨_, rfl, (p.length : Int), rfl, by omega, by omega, fun D hD => ?_⟩
      have eN : (p.length : Int).toNat = p.length := by omega
      refine lc_range (lo := 0) (n := (p.length : Int).toNat) (fun i H' => ∃ bs, H' D = some (.lst bs) ∧ NLs H' bs (((List.range p.length).map (bgRow (cp a) (cp p))).take i) ∧ V.ref D ∉ bs ∧ Same H2 H') ⟨[], upd_same, NLs.nil _, (fun h => nomatch h), same_new hD _⟩ ?_ ?_
      · rintro i H3 hi ⟨bs, n1, n2, n3, s3⟩
        rw [eN] at hi
        rw [show (0 : Int) + (i : Nat) = (i : Nat) from Int.zero_add _]
        have hip : i < (cp p).length := by omega
        obtain ⟨row, hrow⟩ : ∃ row, row = (cp a).map fun c => if c = (cp p).getD i 0 then i + 1 else (cp p).length + 1 := ⟨_, rfl⟩
        have hri : ((List.range p.length).map (bgRow (cp a) (cp p)))[i]? = some row := by
          rw [List.getElem?_map, List.getElem?_range hi, hrow]
          show some (bgRow (cp a) (cp p) i) = _
          unfold bgRow
          rw [if_pos hip]
        have hpi : (cp p)[i]? = some ((cp p).getD i 0) := by rw [List.getD_eq_getElem?_getD, List.getElem?_eq_getElem hip]; rfl
        refine ⟨rfl, _, rfl, a, rfl, fun D2 hD2 => ?_⟩
        have hne : D2 ≠ D := (ne_of_none n1 hD2).symm
        refine lc_it walk_str (fun j H' => H' D2 = some (.lst ((row.take j).map nI)) ∧ Same H3 H') ⟨upd_same, same_new hD2 _⟩ (fun _ _ _ _ => trivial) ?_ ?_
        · rintro j y H5 H6 hj ⟨m1, m2⟩ ⟨rfl, c', hc, rfl⟩
          have hc' : (cp a)[j]? = some c' := by rw [Array.getElem?_toList]; exact hc
          have fin : ∀ v, v = nI (if c' = (cp p).getD i 0 then i + 1 else (cp p).length + 1) → upd H6 D2 (.lst ((row.take j).map nI ++ [v])) D2 = some (.lst ((row.take (j + 1)).map nI)) := fun v ev => by
            have hrj : row[j]? = some (if c' = (cp p).getD i 0 then i + 1 else (cp p).length + 1) := by rw [hrow, List.getElem?_map, hc']; rfl
            rw [upd_same, List.take_add_one, hrj, List.map_append, ev]
            rfl
          have sz : ((row.take j).map nI).length < sizeLine := by
            rw [List.length_map]
            refine Nat.lt_of_le_of_lt (List.length_take_le' _ _) ?_
            rw [hrow, List.length_map, la]
            exact Nat.lt_of_le_of_lt x4 (by decide)
          have kp : ∀ v, Same H3 (upd H6 D2 (.lst ((row.take j).map nI ++ [v]))) := fun v b' o' e' => by
            rw [upd_ne (ne_of_none e' hD2)]
            exact m2 _ _ e'
          refine ⟨rfl, _, rfl, _, rfl, _, rfl, p, _, _, rfl, rfl, Nat.le_trans hp (by decide), atI_nat hpi, rfl, _, rfl, ?_⟩
          by_cases ec : c' = (cp p).getD i 0
          · refine if_tr (decide_eq_true (by rw [ec])) ⟨_, rfl, _, _, rfl, rfl, _, m1, sz, fin _ ?_, kp _⟩
            rw [if_pos ec]
            show V.int ((i : Int) + 1) = V.int ((i + 1 : Nat) : Int)
            rw [show ((i + 1 : Nat) : Int) = (i : Int) + 1 by omega]
          · refine if_fl (decide_eq_false fun z => ec ?_) ⟨_, rfl, _, m1, sz, fin _ ?_, kp _⟩
            · have z1 := V.str.inj z
              have z2 : ([c'] : List Nat) = [(cp p).getD i 0] := congrArg cp z1
              exact List.singleton_inj.mp z2
            · rw [if_neg ec, lp]
              show V.int ((p.length : Int) + 1) = V.int ((p.length + 1 : Nat) : Int)
              rw [show ((p.length + 1 : Nat) : Int) = (p.length : Int) + 1 by omega]
        · rintro H5 ⟨m1, m2⟩
          have m1 : H5 D2 = some (.lst (row.map nI)) := by
            rw [m1, List.take_of_length_le]
            rw [hrow, List.length_map]
            exact Nat.le_of_eq (by rw [Array.length_toList])
          have n1' := m2 _ _ n1
          refine ⟨_, n1', ?_, bs ++ [.ref D2], upd_same, ?_, fun z => ?_, fun b' o' e' => ?_⟩
          · rw [n2.1]
            refine Nat.lt_of_le_of_lt (List.length_take_le' _ _) ?_
            rw [List.length_map, List.length_range]
            exact Nat.lt_of_le_of_lt (show _ ≤ 200 by omega) (by decide)
          · rw [List.take_add_one, hri]
            refine ((n2.same m2).snoc m1).keep fun q' xs e hb => ?_
            have : q' ≠ D := fun z => by
              subst z
              rcases List.mem_append.mp hb with h | h
              · exact n3 h
              · exact hne (V.ref.inj (List.mem_singleton.mp h)).symm
            rw [upd_ne this]
            exact e
          · rcases List.mem_append.mp z with h | h
            · exact n3 h
            · exact hne (V.ref.inj (List.mem_singleton.mp h)).symm
          · rw [upd_ne (ne_of_none e' hD)]
            exact m2 _ _ (s3 _ _ e')
      rintro H3 ⟨bs, n1, n2, n3, s3⟩
      have rl : ((List.range p.length).map (bgRow (cp a) (cp p))).length = p.length := by rw [List.length_map, List.length_range]
      rw [eN, show ((List.range p.length).map (bgRow (cp a) (cp p))).take p.length = (List.range p.length).map (bgRow (cp a) (cp p)) from List.take_of_length_le (by rw [rl]; exact Nat.le_refl _)] at n2
      -- the whole, and lost
      refine ⟨_, rfl, _, rfl, (by show 1 ≤ sizeLine; decide), fun l1 hl1 => ?_⟩
      have t1 := same_new hl1 (.lst [V.int (p.length : Nat)])
      have ka : (a.length : Int).toNat = a.length := by omega
      refine ⟨_, rfl, a, rfl, Nat.le_trans x4 (by decide), l1, (a.length : Int), _, rfl, rfl, upd_same, by omega, by omega, ?_, fun l2 hl2 => ?_⟩
      · show 1 * ((a.length : Int)).toNat ≤ sizeLine
        rw [ka, sizeLine_eq]
        omega
      have t2 := same_new hl2 (.lst (List.replicate ((a.length : Int)).toNat [V.int (p.length : Nat)]).flatten)
      refine ⟨_, rfl, (by show 1 ≤ sizeLine; decide), fun l3 hl3 => ?_⟩
      have t3 := same_new hl3 (.lst [V.int ((p.length : Int) + 1)])
      refine ⟨_, rfl, a, rfl, Nat.le_trans x4 (by decide), l3, (a.length : Int), _, rfl, rfl, upd_same, by omega, by omega, ?_, fun l4 hl4 => ?_⟩
      · show 1 * ((a.length : Int)).toNat ≤ sizeLine
        rw [ka, sizeLine_eq]
        omega
      have t4 := same_new hl4 (.lst (List.replicate ((a.length : Int)).toNat [V.int ((p.length : Int) + 1)]).flatten)
      refine ⟨(by show 2 ≤ sizeLine; decide), fun l5 hl5 => ?_⟩
      have t5 := same_new hl5 (.lst [V.ref l2, V.ref l4])
      have rp : ∀ (n : Nat), (List.replicate ((a.length : Int)).toNat [V.int (n : Nat)]).flatten = (List.replicate (cp a).length n).map nI := fun n => by
        rw [ka, flat_rep, la, List.map_replicate]
      have e2 := t5 _ _ (t4 _ _ (t3 _ _ (show upd (upd H3 l1 (.lst [V.int (p.length : Nat)])) l2 (.lst (List.replicate ((a.length : Int)).toNat [V.int (p.length : Nat)]).flatten) l2 = some (.lst ((List.replicate (cp a).length p.length).map nI)) by rw [upd_same, rp])))
      have e4 := t5 _ _ (show upd (upd (upd (upd H3 l1 (.lst [V.int (p.length : Nat)])) l2 (.lst (List.replicate ((a.length : Int)).toNat [V.int (p.length : Nat)]).flatten)) l3 (.lst [V.int ((p.length : Int) + 1)])) l4 (.lst (List.replicate ((a.length : Int)).toNat [V.int ((p.length : Int) + 1)]).flatten) l4 = some (.lst ((List.replicate (cp a).length (p.length + 1)).map nI)) by
        rw [upd_same, show (p.length : Int) + 1 = ((p.length + 1 : Nat) : Int) by omega, rp])
      have e5 : upd (upd (upd (upd (upd H3 l1 (.lst [V.int (p.length : Nat)])) l2 (.lst (List.replicate ((a.length : Int)).toNat [V.int (p.length : Nat)]).flatten)) l3 (.lst [V.int ((p.length : Int) + 1)])) l4 (.lst (List.replicate ((a.length : Int)).toNat [V.int ((p.length : Int) + 1)]).flatten)) l5 (.lst [V.ref l2, V.ref l4]) l5 = some (.lst [V.ref l2, V.ref l4]) := upd_same
      have tt' := (((t1.trans t2).trans t3).trans t4).trans t5
      generalize upd (upd (upd (upd (upd H3 l1 (.lst [V.int (p.length : Nat)])) l2 (.lst (List.replicate ((a.length : Int)).toNat [V.int (p.length : Nat)]).flatten)) l3 (.lst [V.int ((p.length : Int) + 1)])) l4 (.lst (List.replicate ((a.length : Int)).toNat [V.int ((p.length : Int) + 1)]).flatten)) l5 (.lst [V.ref l2, V.ref l4]) = H4 at e2 e4 e5 tt' ⊢
      clear t1 t2 t3 t4 t5 hl1 hl2 hl3 hl4 hl5
      have bl : bs.length = p.length := by rw [n2.1, rl]
      refine ⟨D, l5, _, _, rfl, rfl, tt' _ _ n1, e5, ?_, fun r hr => ?_⟩
      · rw [bl]
        exact Nat.le_trans (show _ ≤ 300 by show p.length + 2 ≤ 300; omega) (by decide)
      have t6 := same_new hr (.lst (bs ++ [V.ref l2, V.ref l4]))
      have hRow : LRowsAt (upd H4 r (.lst (bs ++ [V.ref l2, V.ref l4]))) r (bgR (cp a) (cp p)) := by
        refine ⟨_, upd_same, ?_⟩
        rw [bgR_split, lp]
        have z := (((n2.same tt').snoc e2).snoc e4).same t6
        rw [List.append_assoc, List.append_assoc] at z
        exact z
      have s26 := (s3.trans tt').trans t6
      generalize upd H4 r (.lst (bs ++ [V.ref l2, V.ref l4])) = H5 at hRow s26 ⊢
      have ll : (bgR (cp a) (cp p)).length = p.length + 2 := by unfold bgR; rw [List.length_map, List.length_range, lp]
      refine ⟨_, rfl, _, rfl, r, _, rfl, hRow, by omega, fun vr H6 s6 hM => ?_⟩
      refine ⟨_, rfl, (by show 1 ≤ sizeLine; decide), fun te hte => ?_⟩
      have s7 := same_new hte (.tup [V.int (p.length : Nat)])
      have Mm : Mach (bgR (cp a) (cp p)) a.length [p.length] := by
        have z := begin_mach (L := cp a) (p := cp p) (by omega) (by omega)
        rw [la, lp] at z
        exact z
      refine fun x px hx hpx hpne => lang_make Mm X.lets X.asc (hM.same s7) ⟨te, rfl, upd_same⟩ hx hpx hpne fun B1 e1 H7 s8 hL K1 K2 => ⟨rfl, ?_⟩
      refine (q2 a rfl c).2 p rfl ok x B1 e1 H7 ((((s1.trans s2).trans s26).trans (s6.trans s7)).trans s8) ⟨hL, K1⟩ (fun w hw => ?_) ?_
      · have z := begin_lang (L := cp a) (p := cp p) (w := w) (by rw [la]; exact hw)
        rw [lp] at z
        unfold Wd
        rw [decide_eq_true_iff]
        exact (K2 w hw).trans z
      · have z := least_le K1 Mm.sq K2
        omega
end
end Vf

set_option Elab.async false
set_option linter.all false
set_option maxRecDepth 100000
set_option maxHeartbeats 4000000
namespace Vf
open PySem PySem.Spec PyProof.Rows L2 L2.Vx Vs Vm Vd Mk
/-! ### lengths -/
abbrev sLs : Stmt := top 55
abbrev nLs : List Str := ["letters", "period", "rests", "rows", "rest"]
theorem inv_nI (x : Nat) (xs : List Nat) : inV (nI x) (xs.map nI) = decide (x ∈ xs) := by
  unfold inV
  rw [List.any_map, Bool.eq_iff_iff, decide_eq_true_iff, List.any_eq_true]
  constructor
  · rintro ⟨y, hy, e⟩
    have e' : ((y : Int) == (x : Int)) = true := e
    have : y = x := Int.ofNat.inj (eq_of_beq e')
    exact this ▸ hy
  · intro h
    exact ⟨x, h, (beq_self_eq_true (x : Int) : _)⟩
theorem flats_nI (xs : List Nat) : (xs.map nI).all flatV = true := by
  rw [List.all_map]
  exact List.all_eq_true.mpr fun _ _ => rfl
theorem inqL_at {K : PySem.W.Frag} {X : Cx} (e : X.K = K) : OpR X (compareOp .In) (rIn K false) := e ▸ op_in_seq
def spLs (K : PySem.W.Frag) (C CB : Addr) : Sp := fun vs H Q E => ∃ (v : V) (yl : Option Str) (per : Nat) (rt : Addr) (es : List Nat), vs = [v, nI per, .ref rt] ∧ StrOr K H v yl ∧ 0 < per ∧ per ≤ 200 ∧ H rt = some (.tup (es.map nI)) ∧
  (okL yl = false → RefV CB "part" (.str "letters") H E) ∧
  (∀ a, yl = some a → letB a = true → ∀ (q : Addr) (R : List (List Nat)) (eR : List Nat) H', Same H H' → LG C H' q a R eR → (∀ w : List Nat, (∀ i ∈ w, i < a.length) → (Wd R eR w = true ↔ w.length % per ∈ es)) → R.length ≤ 900 → Q (.ref q) H')
section
variable {P : Program} {w : World} {K : PySem.W.Frag} {mg : Str → Option Value} {base : Heap} {C CB CT : Addr}
theorem scLs : FnScope nLs ["letters", "period", "rests"] (defScope sLs) := ⟨rfl, rfl, rfl, by decide +kernel, rfl, by decide +kernel, by decide +kernel⟩
theorem ok_ls {f fC fF fI : Addr} {fd fdC fdF fdI : FuncData} (F : Fun K "lengths" "lengths" sLs f fd) (T : TxtMk K mg C)
    (GC : FnOk P w K mg base (L2.CX P w) 3 fC fdC ["letters", "texts"] (spCk K CB CT)) (bC : L2.Binds K fdC ["letters", "texts"] []) (kC : PySem.W.keepIn K (.ref fC) = true) (mC : mg "check" = some (.ref fC))
    (GF : FnOk P w K mg base CX0 1 fF fdF ["rows"] spFz) (bF : L2.Binds K fdF ["rows"] []) (kF : PySem.W.keepIn K (.ref fF) = true) (mF : mg "frozen" = some (.ref fF))
    (M : Mk K C fI) (GI : FnOk P w K mg base CX0 5 fI fdI ["self", "letters", "rows", "ends"] (spLMake C)) (bI : L2.Binds K fdI ["self", "letters", "rows", "ends"] []) :
    FnOk P w K mg base (L2.CX P w) 7 f fd ["letters", "period", "rests"] (spLs K C CB) := by
  refine F.okX scLs (fun vs H Q E h => ?_) (fun cdv Ar outer s H vs Q E hr h => ?_)
  · obtain ⟨v, yl, per, rt, es, rfl, _⟩ := h
    rfl
  obtain ⟨v, yl, per, rt, es, rfl, hv, hper, hper2, hrt, q1, q2⟩ := h
  have hr1 : Room 1 _ := hr.mono (by decide)
  have hr3 : Room 3 _ := hr.mono (by decide)
  refine ⟨_, (pss_cons (ps_expr (pe_call GC hr3 rfl mC kC bC .nil (passes_call (takes_of rfl rfl rfl rfl) (fun _ _ _ _ h => h)) (pa_cons (pv 0) (pa_cons (pe_tup pa_nil) pa_nil))))
    (pss_cons (ps_setLc (i := 3) (own := [("rest", 4)]) (g := gName 4) (tt := tYes) rfl scLs.nd rfl rfl (sw_true rfl rfl rfl (by decide +kernel)) (pi_range1 rfl T.range (pa_cons (pv 1) pa_nil)) (blkOk_by (N := nLs) (sc := defScope sLs) (by decide +kernel)) (fun _ _ _ _ _ => by exact (pg_name (i := 4) scLs.nd rfl (Or.inl rfl))) (fun _ _ _ _ _ => pts_nil)
      (fun _ _ _ _ _ => by exact (pe_op op_rep (pe_lst (pa_cons (pe_op op_mod (pe_op op_add (pv 4) pe_int) (pv 1)) pa_nil)) (pe_callB call_len_str (by rfl) T.len PySem.boot_len (pa_cons (pv 0) pa_nil)))))
    (pss_one (ps_ret (pe_make M GI hr (by rfl) T.gL bI .nil pass0 (pa_cons (pv 0) (pa_cons (pe_call GF hr1 rfl mF kF bF .nil pass0 (pa_cons (pv 3) pa_nil)) (pa_cons (pe_callTy call_tuple_of (by rfl) T.tuple (by decide +kernel) (pa_cons (pe_lc (own := [("rest", 4)]) (g := gName 4) (tt := _) rfl scLs.nd (pi_range1 rfl T.range (pa_cons (pv 1) pa_nil)) (blkOk_by (N := nLs) (sc := defScope sLs) (by decide +kernel)) (fun _ _ _ _ _ => by exact (pg_name (i := 4) scLs.nd rfl (Or.inl rfl))) (fun _ _ _ _ _ => by exact pts_one (pt_cmpR (inqL_at (K := K) rfl) (pv 4) (pv 2) (by rfl))) (fun _ _ _ _ _ => by exact (pv 4))) pa_nil)) pa_nil)))))))), ?_⟩
  refine ⟨_, rfl, (by show 0 ≤ sizeLine; decide), fun tt htt => ?_⟩
  have s1 := same_new htt (.tup [])
  refine ⟨v, yl, tt, [], [], rfl, strOr_same hv s1, SqT.of upd_same, ⟨rfl, fun i x y e1 => by simp at e1⟩, fun c => (q1 c).after s1, fun a e c => ⟨fun i x y' e1 => by simp at e1, fun all H2 s2 => ?_⟩⟩
  subst e
  obtain ⟨rfl, ha, h8⟩ := id hv
  have X : Abc a := ⟨c, h8⟩
  obtain ⟨x1, x4⟩ := X.four
  have s12 := s1.trans s2
  have hrt2 := s12 _ _ hrt
  have eN : (per : Int).toNat = per := by omega
  have ka : (a.length : Int).toNat = a.length := by omega
  have ll : (lenR a.length per).length = per := by unfold lenR; rw [List.length_map, List.length_range]
  refine ⟨_, rfl, (per : Int), rfl, by omega, by omega, fun D hD => ?_⟩
  refine lc_range (lo := 0) (n := (per : Int).toNat) (fun i H' => ∃ bs, H' D = some (.lst bs) ∧ NLs H' bs ((lenR a.length per).take i) ∧ V.ref D ∉ bs ∧ Same H2 H') ⟨[], upd_same, NLs.nil _, (fun h => nomatch h), same_new hD _⟩ ?_ ?_
  · rintro i H3 hi ⟨bs, n1, n2, n3, s3⟩
    rw [eN] at hi
    rw [show (0 : Int) + (i : Nat) = (i : Nat) from Int.zero_add _]
    have hri : (lenR a.length per)[i]? = some (List.replicate a.length ((i + 1) % per)) := by
      unfold lenR
      rw [List.getElem?_map, List.getElem?_range hi]
      rfl
    refine ⟨rfl, _, rfl, _, _, rfl, rfl, _, rfl, _, _, rfl, rfl, by omega, (by show 1 ≤ sizeLine; decide), fun l1 hl1 => ?_⟩
    have t1 := same_new hl1 (.lst [V.int (((i : Int) + 1) % (per : Int))])
    refine ⟨_, rfl, a, rfl, Nat.le_trans x4 (by decide), l1, (a.length : Int), _, rfl, rfl, upd_same, by omega, by omega, ?_, fun l2 hl2 => ?_⟩
    · show 1 * ((a.length : Int)).toNat ≤ sizeLine
      rw [ka, sizeLine_eq]
      omega
    have t2 := same_new hl2 (.lst (List.replicate ((a.length : Int)).toNat [V.int (((i : Int) + 1) % (per : Int))]).flatten)
    have n1' := t2 _ _ (t1 _ _ n1)
    have hne : l2 ≠ D := (ne_of_none (t1 _ _ n1) hl2).symm
    have el2 : upd (upd H3 l1 (.lst [V.int (((i : Int) + 1) % (per : Int))])) l2 (.lst (List.replicate ((a.length : Int)).toNat [V.int (((i : Int) + 1) % (per : Int))]).flatten) l2 = some (.lst ((List.replicate a.length ((i + 1) % per)).map nI)) := by
      rw [upd_same, ka, flat_rep, List.map_replicate]
      rw [show ((i : Int) + 1) % (per : Int) = (((i + 1) % per : Nat) : Int) by rw [Int.natCast_emod]; rfl]
    refine ⟨_, n1', ?_, bs ++ [.ref l2], upd_same, ?_, fun z => ?_, fun b' o' e' => ?_⟩
    · rw [n2.1]
      refine Nat.lt_of_le_of_lt (List.length_take_le' _ _) ?_
      rw [ll]
      exact Nat.lt_of_le_of_lt hper2 (by decide)
    · rw [List.take_add_one, hri]
      refine ((n2.same (t1.trans t2)).snoc el2).keep fun q' xs e hb => ?_
      have : q' ≠ D := fun z => by
        subst z
        rcases List.mem_append.mp hb with h | h
        · exact n3 h
        · exact hne (V.ref.inj (List.mem_singleton.mp h)).symm
      rw [upd_ne this]
      exact e
    · rcases List.mem_append.mp z with h | h
      · exact n3 h
      · exact hne (V.ref.inj (List.mem_singleton.mp h)).symm
    · rw [upd_ne (ne_of_none e' hD)]
      exact t2 _ _ (t1 _ _ (s3 _ _ e'))
  rintro H3 ⟨bs, n1, n2, n3, s3⟩
  rw [eN, show (lenR a.length per).take per = lenR a.length per from List.take_of_length_le (by rw [ll]; exact Nat.le_refl _)] at n2
  refine ⟨_, rfl, _, rfl, D, _, rfl, ⟨bs, n1, n2⟩, by omega, fun vr H4 s4 hM => ?_⟩
  have hrt4 := s4 _ _ (s3 _ _ hrt2)
  refine ⟨_, rfl, (per : Int), rfl, by omega, by omega, fun D2 hD2 => ?_⟩
  refine lc_range (lo := 0) (n := (per : Int).toNat) (fun i H' => H' D2 = some (.lst (((List.range i).filter fun j => decide (j ∈ es)).map nI)) ∧ Same H4 H') ⟨upd_same, same_new hD2 _⟩ ?_ ?_
  · rintro i H5 hi ⟨m1, m2⟩
    rw [eN] at hi
    rw [show (0 : Int) + (i : Nat) = (i : Nat) from Int.zero_add _]
    refine ⟨rfl, _, rfl, _, rfl, rt, _, rfl, .inr (SqT.of (m2 _ _ hrt4)), rfl, flats_nI es, _, rfl, ?_⟩
    rw [if_neg Bool.false_ne_true, inv_nI]
    refine ite2 (fun c => ⟨_, rfl, _, m1, ?_, ?_, fun b u e => ?_⟩) (fun c => ⟨?_, m2⟩)
    · rw [List.length_map]
      refine Nat.lt_of_le_of_lt (List.length_filter_le _ _) ?_
      rw [List.length_range, sizeLine_eq]
      omega
    · rw [upd_same, List.range_succ, List.filter_append, List.map_append]
      rw [show ([i].filter fun j => decide (j ∈ es)) = [i] by rw [List.filter_cons]; rw [if_pos c]; rfl]
      rfl
    · rw [upd_ne (ne_of_none e hD2)]
      exact m2 b u e
    · rw [m1, List.range_succ, List.filter_append]
      rw [show ([i].filter fun j => decide (j ∈ es)) = [] by rw [List.filter_cons]; rw [if_neg c]; rfl]
      rw [List.append_nil]
  rintro H5 ⟨m1, m2⟩
  rw [eN] at m1
  refine ⟨D2, _, rfl, .inl ⟨SqL.of m1, fun te hte => ?_⟩⟩
  have s7 := same_new hte (.tup (((List.range per).filter fun j => decide (j ∈ es)).map nI))
  have Mm : Mach (lenR a.length per) a.length ((List.range per).filter fun j => decide (j ∈ es)) := len_mach hper (by omega) (by omega) (fun x hx => List.mem_range.mp (List.mem_filter.mp hx).1) (List.Pairwise.filter _ List.pairwise_lt_range)
  refine fun x px hx hpx hpne => lang_make Mm X.lets X.asc (hM.same (m2.trans s7)) ⟨te, rfl, upd_same⟩ hx hpx hpne fun B1 e1 H7 s8 hL K1 K2 => ⟨rfl, ?_⟩
  refine q2 a rfl c x B1 e1 H7 (((s12.trans s3).trans s4).trans ((m2.trans s7).trans s8)) ⟨hL, K1⟩ (fun w hw => ?_) ?_
  · have la : (cp a).length = a.length := by rw [Array.length_toList]; rfl
    have z := led_len (L := cp a) (w := w) hper (by rw [la]; exact hw)
    rw [la] at z
    unfold Wd
    rw [decide_eq_true_iff, K2 w hw, z, List.mem_filter, List.mem_range, decide_eq_true_iff]
    exact ⟨fun h => h.2, fun h => ⟨Nat.mod_lt _ hper, h⟩⟩
  · have z := least_le K1 Mm.sq K2
    omega
end
end Vf

set_option Elab.async false
set_option linter.all false
set_option maxRecDepth 100000
set_option maxHeartbeats 4000000
namespace Vf
open PySem PySem.Spec PyProof.Rows L2 L2.Vx Vs Vm Vd Mk
/-! ### having -/
abbrev sHv : Stmt := top 52
abbrev nHv : List Str := ["letters", "piece", "least", "matching", "width", "rows", "seen", "behind", "row", "ends", "many", "state"]
theorem ixL_at9 {K : PySem.W.Frag} {X : Cx} (e : X.K = K) : IxR X (rIxL K) := e ▸ ix_list
/-- as spOne, with a number; an empty piece is refused as a text -/
def spHv (K : PySem.W.Frag) (C CB CT : Addr) : Sp := fun vs H Q E => ∃ (v tv : V) (n : Nat) (yl yt : Option Str), vs = [v, tv, nI n] ∧ StrOr K H v yl ∧ StrOr K H tv yt ∧ (∀ p, yt = some p → (n + 1) * (p.length + 1) ≤ 900) ∧
  (okL yl = false → RefV CB "part" (.str "letters") H E) ∧
  (∀ a, yl = some a → letB a = true → (okT a yt = false → RefV CT "value" tv H E) ∧ (yt = some (Str.ofString "") → RefV CT "value" tv H E) ∧
    (∀ p, yt = some p → wordB a p = true → p ≠ "" → ∀ (q : Addr) (R : List (List Nat)) (eR : List Nat) H', Same H H' → LG C H' q a R eR → (∀ w : List Nat, (∀ i ∈ w, i < a.length) → (Wd R eR w = true ↔ n ≤ stands (cp p) (back (cp a) w))) → R.length ≤ 900 → Q (.ref q) H'))
section
variable {P : Program} {w : World} {K : PySem.W.Frag} {mg : Str → Option Value} {base : Heap} {C CB CT : Addr}
theorem scHv : FnScope nHv ["letters", "piece", "least"] (defScope sHv) := ⟨rfl, rfl, rfl, by decide +kernel, rfl, by decide +kernel, by decide +kernel⟩
theorem ok_hv {f fC fF fM fI : Addr} {fd fdC fdF fdM fdI : FuncData} {dvs : List V} {kws : List (Str × V)} (F : FunD K "having" "having" (defArgs sHv) (defBody sHv) (defScope sHv) dvs kws f fd) (T : TxtMk K mg C) (TC : TxtCk P w K mg base CB CT)
    (GC : FnOk P w K mg base (L2.CX P w) 3 fC fdC ["letters", "texts"] (spCk K CB CT)) (bC : L2.Binds K fdC ["letters", "texts"] []) (kC : PySem.W.keepIn K (.ref fC) = true) (mC : mg "check" = some (.ref fC))
    (GF : FnOk P w K mg base CX0 1 fF fdF ["rows"] spFz) (bF : L2.Binds K fdF ["rows"] []) (kF : PySem.W.keepIn K (.ref fF) = true) (mF : mg "frozen" = some (.ref fF))
    (GM : FnOk P w K mg base CX0 2 fM fdM ["letters", "piece"] spMr) (bM : L2.Binds K fdM ["letters", "piece"] []) (kM : PySem.W.keepIn K (.ref fM) = true) (mM : mg "matching_rows" = some (.ref fM))
    (M : Mk K C fI) (GI : FnOk P w K mg base CX0 5 fI fdI ["self", "letters", "rows", "ends"] (spLMake C)) (bI : L2.Binds K fdI ["self", "letters", "rows", "ends"] []) :
    FnOk P w K mg base (L2.CX P w) 7 f fd ["letters", "piece", "least"] (spHv K C CB CT) := by
  refine F.ok (CX := L2.CX P w) scHv (fun vs H Q E h => ?_) (fun cdv Ar outer s H vs Q E hr h => ?_)
  · obtain ⟨v, tv, n, yl, yt, rfl, _⟩ := h
    rfl
  obtain ⟨v, tv, n, yl, yt, rfl, hv, ht, hlen, q1, q2⟩ := h
  have hr1 : Room 1 _ := hr.mono (by decide)
  have hr2 : Room 2 _ := hr.mono (by decide)
  have hr3 : Room 3 _ := hr.mono (by decide)
  refine ⟨_, (pss_cons (ps_expr (pe_call GC hr3 rfl mC kC bC .nil (passes_call (takes_of rfl rfl rfl rfl) (fun _ _ _ _ h => h)) (pa_cons (pv 0) (pa_cons (pe_tup (pa_cons (pv 1) pa_nil)) pa_nil))))
    (pss_cons (ps_if (pt_cmpR op_eq (pv 1) pe_str (nomark _)) (pss_one (ps_raise rfl (takes_of rfl rfl rfl rfl) (pmk_exE TC.zT hr2 TC.gT (pv 1)))) pss_nil)
    (pss_cons (ps_set (i := 3) scHv.nd rfl (Or.inl rfl) (pe_call GM hr2 rfl mM kM bM .nil pass0 (pa_cons (pv 0) (pa_cons (pv 1) pa_nil))))
    (pss_cons (ps_set (i := 4) scHv.nd rfl (Or.inr rfl) (pe_callB call_len_seq (by rfl) T.len PySem.boot_len (pa_cons (pv 3) pa_nil)))
    (pss_cons (ps_set (i := 5) scHv.nd rfl (Or.inl rfl) (pe_lst pa_nil))
    (pss_cons (ps_for (passes_of rfl) rfl (pi_range1 rfl T.range (pa_cons (pe_op op_add (pv 2) pe_int) pa_nil)) (pg_name (i := 6) scHv.nd rfl (Or.inr rfl))
      (C8.pss_cut (ps_set (i := 7) scHv.nd rfl (Or.inr rfl) (pe_ifExp (pt_cmpR op_lt (pv 6) (pv 2) (nomark _)) (pe_op op_add (pv 6) pe_int) (pv 6)))
      (pss_one (ps_for (passes_of rfl) rfl (pi_list (pv 3)) (pg_name (i := 8) scHv.nd rfl (Or.inl rfl)) (pss_one (ps_expr (pe_bm PySem.F.plainAttrs_list PySem.F.slot_list_append PySem.F.type_list_append mt_append (pv 5) (pa_cons (pe_lc (own := [("many", 10)]) (g := gName 10) (tt := tYes) rfl scHv.nd (pi_list (pv 8)) (blkOk_by (N := nHv) (sc := defScope sHv) (by decide +kernel)) (fun _ _ _ _ _ => by exact (pg_name (i := 10) scHv.nd rfl (Or.inl rfl))) (fun _ _ _ _ _ => pts_nil)
        (fun _ _ _ _ _ => by exact (pe_op op_add (pe_op op_mul (pe_ifExp (pt_cmpR op_eq (pv 10) (pe_callB call_len_str (by rfl) T.len PySem.boot_len (pa_cons (pv 1) pa_nil)) (nomark _)) (pv 7) (pv 6)) (pv 4)) (pv 10)))) pa_nil))))))))
    (pss_cons (ps_set (i := 9) scHv.nd rfl (Or.inl rfl) (pe_callTy call_tuple_of (by rfl) T.tuple (by decide +kernel) (pa_cons (pe_lc (own := [("state", 11)]) (g := gName 11) (tt := _) rfl scHv.nd (pi_range1 rfl T.range (pa_cons (pe_callB call_len_seq (by rfl) T.len PySem.boot_len (pa_cons (pv 5) pa_nil)) pa_nil)) (blkOk_by (N := nHv) (sc := defScope sHv) (by decide +kernel)) (fun _ _ _ _ _ => by exact (pg_name (i := 11) scHv.nd rfl (Or.inl rfl))) (fun _ _ _ _ _ => by exact pts_one (pt_cmpR op_ge (pv 11) (pe_op op_mul (pv 2) (pv 4)) (nomark _))) (fun _ _ _ _ _ => by exact (pv 11))) pa_nil)))
    (pss_one (ps_ret (pe_make M GI hr (by rfl) T.gL bI .nil pass0 (pa_cons (pv 0) (pa_cons (pe_call GF hr1 rfl mF kF bF .nil pass0 (pa_cons (pv 5) pa_nil)) (pa_cons (pv 9) pa_nil))))))))))))), ?_⟩
  refine ⟨_, rfl, _, rfl, (by show 1 ≤ sizeLine; decide), fun tt htt => ?_⟩
  have s1 := same_new htt (.tup [tv])
  refine ⟨v, yl, tt, [tv], [yt], rfl, strOr_same hv s1, SqT.of upd_same, ⟨rfl, fun i x y e1 e2 => ?_⟩, fun c => (q1 c).after s1, fun a e c => ⟨fun i x y' e1 e2 c2 _ => ?_, fun all H2 s2 => ?_⟩⟩
  · cases i with
    | zero =>
      obtain rfl := Option.some.inj e1
      obtain rfl := Option.some.inj e2
      exact strOr_same ht s1
    | succ i => simp at e1
  · cases i with
    | zero =>
      obtain rfl := Option.some.inj e1
      obtain rfl := Option.some.inj e2
      exact ((q2 a e c).1 c2).after s1
    | succ i => simp at e1
  · subst e
    have ok := all yt (List.mem_singleton.mpr rfl)
    cases yt with
    | none => exact nomatch (show false = true from ok)
    | some p =>
      obtain ⟨rfl, hp, h8p⟩ := id ht
      obtain ⟨rfl, ha, h8⟩ := id hv
      have X : Abc a := ⟨c, h8⟩
      obtain ⟨x1, x4⟩ := X.four
      have pl := hlen p rfl
      have la : (cp a).length = a.length := by rw [Array.length_toList]; rfl
      have lp : (cp p).length = p.length := by rw [Array.length_toList]; rfl
      refine ⟨_, rfl, rfl, _, rfl, ?_⟩
      by_cases pe : p = ""
      · refine if_tr (decide_eq_true (by rw [pe])) ?_
        exact ⟨_, rfl, _, rfl, fun d hd => (((q2 a rfl c).2.1 (congrArg some pe)).after (s1.trans s2)).now hd⟩
      refine if_fl (decide_eq_false fun z => pe (V.str.inj z)) ?_
      obtain ⟨W, hW⟩ : ∃ W, W = p.length + 1 := ⟨_, rfl⟩
      have cap : (n + 1) * W ≤ 900 := by rw [hW]; exact pl
      have p9 : W ≤ 900 := Nat.le_trans (Nat.le_mul_of_pos_left _ (Nat.succ_pos n)) cap
      have n9 : n + 1 ≤ 900 := Nat.le_trans (Nat.le_mul_of_pos_right _ (by omega)) cap
      refine ⟨_, rfl, _, rfl, a, p, rfl, x4, by omega, fun l H3 s3 hR => ?_⟩
      obtain ⟨ms, hl, hN⟩ := hR
      have mlen : (matchR (cp a) (cp p)).length = W := by unfold matchR; rw [List.length_map, List.length_range, lp, hW]
      have ml : ms.length = W := by rw [hN.1, mlen]
      refine ⟨_, rfl, l, ms, rfl, .inl (SqL.of hl), ?_⟩
      rw [ml]
      refine ⟨Nat.zero_le _, fun Dr hDr => ?_⟩
      have hl' := same_new hDr (.lst []) _ _ hl
      have hN' := hN.same (same_new hDr (.lst []))
      have hlen9 : (hvR (cp a) (cp p) n).length = (n + 1) * W := by unfold hvR; rw [List.length_map, List.length_range, lp, hW]
      refine ⟨_, rfl, _, _, rfl, rfl, ((n : Int) + 1), rfl, by omega, by omega, ?_⟩
      have eN : ((n : Int) + 1).toNat = n + 1 := by omega
      refine for_range (lo := 0) (n := ((n : Int) + 1).toNat) (fun i σ H' => ∃ (bs : List V) (v6 v7 v8 : Option V), σ = [some (.str a), some (.str p), some (nI n), some (.ref l), some (nI W), some (.ref Dr), v6, v7, v8, none, none, none] ∧ H' Dr = some (.lst bs) ∧ NLs H' bs ((hvR (cp a) (cp p) n).take (i * W)) ∧ V.ref Dr ∉ bs ∧ Same H3 H')
        ⟨[], none, none, none, rfl, upd_same, by rw [Nat.zero_mul]; exact NLs.nil _, (fun h => nomatch h), same_new hDr _⟩ ?_ ?_
      · rintro i σ H4 hi ⟨bs, v6, v7, v8, rfl, n1, n2, n3, s4⟩
        rw [eN] at hi
        rw [show (0 : Int) + (i : Nat) = (i : Nat) from Int.zero_add _]
        refine ⟨fun σ' H' => σ' = [some (.str a), some (.str p), some (nI n), some (.ref l), some (nI W), some (.ref Dr), some (nI i), some (nI (if i < n then i + 1 else i)), v8, none, none, none] ∧ H' = H4, ?_, ?_⟩
        · refine ⟨_, rfl, _, rfl, _, _, rfl, rfl, _, rfl, ?_⟩
          by_cases e : i < n
          · rw [if_pos e]
            refine if_tr (decide_eq_true (by omega)) ⟨_, rfl, _, _, rfl, rfl, ?_, rfl⟩
            show [_, _, _, _, _, _, _, some (V.int ((i : Int) + 1)), _, _, _, _] = _
            rw [show (i : Int) + 1 = ((i + 1 : Nat) : Int) by omega]
          · rw [if_neg e]
            exact if_fl (decide_eq_false (by omega)) ⟨_, rfl, rfl, rfl⟩
        rintro σ' H5 ⟨rfl, rfl⟩
        have hl4 := s4 _ _ hl
        refine ⟨_, rfl, l, rfl, ⟨_, SqL.of hl4⟩, ?_⟩
        refine for_it (walk_list (xs := ms)) (fun m σ H' => ∃ (cs : List V) (v8 : Option V), σ = [some (.str a), some (.str p), some (nI n), some (.ref l), some (nI W), some (.ref Dr), some (nI i), some (nI (if i < n then i + 1 else i)), v8, none, none, none] ∧ H' Dr = some (.lst cs) ∧ NLs H' cs ((hvR (cp a) (cp p) n).take (i * W + m)) ∧ V.ref Dr ∉ cs ∧ Same H3 H')
          ⟨bs, v8, rfl, n1, n2, n3, s4⟩ (fun m σ H' _ ⟨_, _, _, _, _, _, s⟩ => SqL.of (s _ _ hl)) ?_ ?_
        · rintro m v σ H6 H7 hm ⟨cs, v8', rfl, m1, m2, m3, s6⟩ ⟨rfl, hv'⟩
          have hmW : m < W := by rw [← ml]; exact hm
          have hN6 := hN.same s6
          obtain ⟨r, hr'⟩ : ∃ r, r = (cp a).map fun c => mt (cp p) ((cp p).take m ++ [c]) := ⟨_, rfl⟩
          have hrm : (matchR (cp a) (cp p))[m]? = some r := by
            unfold matchR
            rw [List.getElem?_map, List.getElem?_range (by omega), hr']
            rfl
          obtain ⟨lr, rfl, hlr⟩ := hN6.2 m v r hv' hrm
          obtain ⟨row, hrow⟩ : ∃ row, row = (cp a).map (hvNext (cp a) (cp p) n (i * W + m)) := ⟨_, rfl⟩
          have hW' : (cp p).length + 1 = W := by rw [lp, hW]
          have him : i * W + m < (n + 1) * W := cell_lt (by omega) hmW
          have hri : (hvR (cp a) (cp p) n)[i * W + m]? = some row := by
            unfold hvR
            rw [List.getElem?_map, hW', List.getElem?_range him, hrow]
            rfl
          have hnx : ∀ c, hvNext (cp a) (cp p) n (i * W + m) c = (if mt (cp p) ((cp p).take m ++ [c]) = p.length then (if i < n then i + 1 else i) else i) * W + mt (cp p) ((cp p).take m ++ [c]) := fun c => by
            unfold hvNext
            rw [hW', (cell_div hmW).1, (cell_div hmW).2, lp]
          refine ⟨_, rfl, ?_, _, rfl, lr, rfl, ⟨_, SqL.of hlr⟩, fun D2 hD2 => ?_⟩
          · exact .inl ⟨rfl, _, SqL.of m1⟩
          have hne : D2 ≠ Dr := (ne_of_none m1 hD2).symm
          refine lc_it (walk_list (xs := r.map nI)) (fun j H' => H' D2 = some (.lst ((row.take j).map nI)) ∧ Same H7 H') ⟨upd_same, same_new hD2 _⟩ (fun j H' _ ⟨_, k2⟩ => SqL.of (k2 _ _ hlr)) ?_ ?_
          · rintro j y H8 H9 hj ⟨k1, k2⟩ ⟨rfl, hy⟩
            have hja : j < (cp a).length := by
              rw [List.length_map, hr', List.length_map] at hj
              exact hj
            obtain ⟨c, hc⟩ : ∃ c, (cp a)[j]? = some c := ⟨_, List.getElem?_eq_getElem hja⟩
            obtain ⟨t, ht'⟩ : ∃ t, t = mt (cp p) ((cp p).take m ++ [c]) := ⟨_, rfl⟩
            have hy' : (r.map nI)[j]? = some (nI t) := by rw [hr', List.map_map, List.getElem?_map, hc, ht']; rfl
            obtain rfl : nI t = y := Option.some.inj (hy'.symm.trans hy)
            have hrj : row[j]? = some ((if t = p.length then (if i < n then i + 1 else i) else i) * W + t) := by
              rw [hrow, List.getElem?_map, hc, Option.map_some, hnx c, ← ht']
            have sm : (row.take j).length < sizeLine := by
              refine Nat.lt_of_le_of_lt (List.length_take_le' _ _) ?_
              rw [hrow, List.length_map, la]
              exact Nat.lt_of_le_of_lt x4 (by decide)
            refine ⟨rfl, _, rfl, _, rfl, p, rfl, ?_, rfl, _, rfl, ?_⟩
            · exact Nat.le_trans (show _ ≤ 900 by omega) (by decide)
            have fin : ∀ k : Nat, (k : Nat) = (if t = p.length then (if i < n then i + 1 else i) else i) → ∃ acc, H9 D2 = some (.lst acc) ∧ acc.length < sizeLine ∧ (upd H9 D2 (.lst (acc ++ [V.int ((k : Int) * (W : Int) + (t : Int))]))) D2 = some (.lst ((row.take (j + 1)).map nI)) ∧ Same H7 (upd H9 D2 (.lst (acc ++ [V.int ((k : Int) * (W : Int) + (t : Int))]))) := fun k hk => by
              refine ⟨_, k1, ?_, ?_, fun b' o' e' => ?_⟩
              · rw [List.length_map]
                exact sm
              · rw [upd_same, List.take_add_one, hrj, List.map_append, ← hk]
                rfl
              · rw [upd_ne (ne_of_none e' hD2)]
                exact k2 _ _ e'
            by_cases ce : t = p.length
            · refine if_tr (decide_eq_true (by rw [ce])) ⟨_, rfl, _, rfl, _, _, rfl, rfl, .inr ⟨by omega, by omega⟩, _, rfl, _, _, rfl, rfl, fin _ (by rw [if_pos ce])⟩
            · refine if_fl (decide_eq_false fun z => ce (by have := V.int.inj z; omega)) ⟨_, rfl, _, rfl, _, _, rfl, rfl, .inr ⟨by omega, by omega⟩, _, rfl, _, _, rfl, rfl, fin _ (by rw [if_neg ce])⟩
          rintro H8 ⟨k1, k2⟩
          have k1 : H8 D2 = some (.lst (row.map nI)) := by
            rw [k1, List.take_of_length_le]
            rw [hrow, hr', List.length_map, List.length_map, List.length_map]
            exact Nat.le_refl _
          have n1' := k2 _ _ m1
          refine ⟨Dr, cs, _, rfl, rfl, n1', ?_, cs ++ [.ref D2], _, rfl, upd_same, ?_, fun z => ?_, fun b' o' e' => ?_⟩
          · rw [m2.1]
            refine Nat.lt_of_le_of_lt (List.length_take_le' _ _) ?_
            rw [hlen9]
            exact Nat.lt_of_le_of_lt cap (by decide)
          · rw [← Nat.add_assoc, List.take_add_one, hri]
            refine ((m2.same k2).snoc k1).keep fun q' xs e hb => ?_
            have : q' ≠ Dr := fun z => by
              subst z
              rcases List.mem_append.mp hb with h | h
              · exact m3 h
              · exact hne (V.ref.inj (List.mem_singleton.mp h)).symm
            rw [upd_ne this]
            exact e
          · rcases List.mem_append.mp z with h | h
            · exact m3 h
            · exact hne (V.ref.inj (List.mem_singleton.mp h)).symm
          · rw [upd_ne (ne_of_none e' hDr)]
            exact k2 _ _ (s6 _ _ e')
        · rintro σ H6 ⟨cs, v8', rfl, m1, m2, m3, s6⟩
          refine ⟨cs, _, _, _, rfl, m1, ?_, m3, s6⟩
          rw [show (i + 1) * W = i * W + ms.length by rw [ml, Nat.succ_mul]]
          exact m2
      rintro σ H4 ⟨bs, v6, v7, v8, rfl, n1, n2, n3, s4⟩
      rw [eN, show (hvR (cp a) (cp p) n).take ((n + 1) * W) = hvR (cp a) (cp p) n from List.take_of_length_le (by rw [hlen9]; exact Nat.le_refl _)] at n2
      have bl : bs.length = (n + 1) * W := by rw [n2.1, hlen9]
      refine ⟨_, rfl, Dr, bs, rfl, .inl (SqL.of n1), ?_⟩
      rw [bl]
      have eM : (((n + 1) * W : Nat) : Int).toNat = (n + 1) * W := by omega
      refine ⟨(((n + 1) * W : Nat) : Int), rfl, by omega, by omega, fun D2 hD2 => ?_⟩
      refine lc_range (lo := 0) (n := (((n + 1) * W : Nat) : Int).toNat) (fun i H' => H' D2 = some (.lst (((List.range i).filter fun j => decide (n * W ≤ j)).map nI)) ∧ Same H4 H') ⟨upd_same, same_new hD2 _⟩ ?_ ?_
      · rintro i H5 hi ⟨m1, m2⟩
        rw [eM] at hi
        rw [show (0 : Int) + (i : Nat) = (i : Nat) from Int.zero_add _]
        refine ⟨rfl, _, rfl, _, rfl, _, rfl, _, _, rfl, rfl, .inl ⟨by omega, by omega⟩, _, _, rfl, rfl, _, rfl, ?_⟩
        refine ite2 (fun c => ⟨_, rfl, _, m1, ?_, ?_, fun b u e => ?_⟩) (fun c => ⟨?_, m2⟩)
        · rw [List.length_map]
          refine Nat.lt_of_le_of_lt (List.length_filter_le _ _) ?_
          rw [List.length_range, sizeLine_eq]
          omega
        · have c' : n * W ≤ i := by
            have z := of_decide_eq_true c
            exact Int.ofNat_le.mp (by rw [Int.natCast_mul]; exact z)
          rw [upd_same, List.range_succ, List.filter_append, List.map_append]
          rw [show ([i].filter fun j => decide (n * W ≤ j)) = [i] by rw [List.filter_cons]; rw [if_pos (decide_eq_true c')]; rfl]
          rfl
        · rw [upd_ne (ne_of_none e hD2)]
          exact m2 b u e
        · have c' : ¬ n * W ≤ i := fun z => c (decide_eq_true (by have := Int.ofNat_le.mpr z; rw [Int.natCast_mul] at this; exact this))
          rw [m1, List.range_succ, List.filter_append]
          rw [show ([i].filter fun j => decide (n * W ≤ j)) = [] by rw [List.filter_cons]; rw [if_neg fun z => c' (of_decide_eq_true z)]; rfl]
          rw [List.append_nil]
      rintro H5 ⟨m1, m2⟩
      rw [eM] at m1
      refine ⟨D2, _, rfl, .inl ⟨SqL.of m1, fun te hte => ?_⟩⟩
      have s7 := same_new hte (.tup (((List.range ((n + 1) * W)).filter fun j => decide (n * W ≤ j)).map nI))
      refine ⟨_, rfl, _, rfl, Dr, _, rfl, ⟨bs, s7 _ _ (m2 _ _ n1), (n2.same m2).same s7⟩, by omega, fun vr H6 s6 hM => ?_⟩
      have Mm : Mach (hvR (cp a) (cp p) n) a.length ((List.range ((n + 1) * W)).filter fun j => decide (n * W ≤ j)) := by
        have z := having_mach (L := cp a) (p := cp p) (n := n) (by rw [lp, ← hW]; omega) (by omega)
        unfold hvE at z
        rw [la, lp, ← hW] at z
        exact z
      refine ⟨_, rfl, fun x px hx hpx hpne => lang_make Mm X.lets X.asc hM ⟨te, rfl, s6 _ _ upd_same⟩ hx hpx hpne fun B1 e1 H7 s8 hL K1 K2 => ⟨rfl, ?_⟩⟩
      refine (q2 a rfl c).2.2 p rfl ok pe x B1 e1 H7 (((s1.trans s2).trans (s3.trans s4)).trans ((m2.trans s7).trans (s6.trans s8))) ⟨hL, K1⟩ (fun w hw => ?_) ?_
      · have z := having_lang (L := cp a) (p := cp p) (n := n) (w := w) (fun z => pe ?_) (by rw [la]; exact hw)
        · unfold hvE at z
          rw [lp, ← hW] at z
          unfold Wd
          rw [decide_eq_true_iff]
          exact (K2 w hw).trans z
        · have e : p = mkS (cp p) := eta_S p
          rw [e, z]
          rfl
      · have z := least_le K1 Mm.sq K2
        omega
end
end Vf

set_option Elab.async false
set_option linter.all false
set_option maxRecDepth 100000
set_option maxHeartbeats 4000000
namespace Vf
open PySem PySem.Spec PyProof.Rows L2 L2.Vx Vs Vm Vd Mk
/-! ### finite -/
abbrev sFt : Stmt := top 51
abbrev nFt : List Str := ["letters", "texts", "numbers", "text", "many", "dead", "rows", "ends", "begun", "letter", "number"]
abbrev scInFt : Scope := { kind := .function, names := [(".0", .local), ("begun", .cell), ("dead", .cell), ("letters", .cell), ("numbers", .cell)], isGenerator := false, isCoroutine := false, more := [] }
/-- the texts as words -/
def wsOf (ys : List (Option Str)) : List (List Nat) := ys.map fun y => (y.map cp).getD []
theorem inv_str (x : Str) (xs : List Str) : inV (.str x) (xs.map .str) = decide (x ∈ xs) := by
  unfold inV
  rw [List.any_map, Bool.eq_iff_iff, decide_eq_true_iff, List.any_eq_true]
  constructor
  · rintro ⟨y, hy, e⟩
    have e' : (y == x) = true := e
    exact eq_of_beq e' ▸ hy
  · intro h
    exact ⟨x, h, (beq_self_eq_true x : _)⟩
theorem flats_str (xs : List Str) : (xs.map V.str).all flatV = true := by
  rw [List.all_map]
  exact List.all_eq_true.mpr fun _ _ => rfl
theorem mkS_mem {u : List Nat} {ws : List (List Nat)} : mkS u ∈ ws.map mkS ↔ u ∈ ws := by
  rw [List.mem_map]
  exact ⟨fun ⟨y, hy, e⟩ => by rw [← show y = u from congrArg cp e]; exact hy, fun h => ⟨u, h, rfl⟩⟩
/-- texts that are all right: their values -/
theorem strs_all {K : PySem.W.Frag} {H : Hp} {a : Str} {tvs : List V} {ys : List (Option Str)} (h : StrsOr K H tvs ys) (all : ∀ z ∈ ys, okT a z = true) : tvs = ((wsOf ys).map mkS).map .str := by
  have l : (wsOf ys).length = ys.length := by unfold wsOf; rw [List.length_map]
  refine List.ext_getElem? fun i => ?_
  rcases Nat.lt_or_ge i ys.length with c | c
  · have c' : i < tvs.length := by rw [h.1]; exact c
    have e1 : tvs[i]? = some tvs[i] := List.getElem?_eq_getElem c'
    have e2 : ys[i]? = some ys[i] := List.getElem?_eq_getElem c
    have z := h.2 i _ _ e1 e2
    have ok := all _ (List.getElem_mem c)
    generalize tvs[i] = v at e1 z
    generalize ys[i] = y at e2 z ok
    cases y with
    | none => exact nomatch (show false = true from ok)
    | some t =>
      obtain ⟨rfl, _, _⟩ := z
      unfold wsOf
      rw [e1, List.getElem?_map, List.getElem?_map, List.getElem?_map, e2]
      show some (V.str t) = some (V.str (mkS (cp t)))
      rw [← eta_S t]
  · rw [List.getElem?_eq_none (by rw [h.1]; exact c), List.getElem?_eq_none (by rw [List.length_map, List.length_map, l]; exact c)]
theorem sum_take_le (l : List Nat) (i : Nat) : (l.take i).sum ≤ l.sum := by
  have z := congrArg List.sum (List.take_append_drop i l)
  rw [List.sum_append] at z
  omega
theorem lot_one : Lot [[]] := ⟨rfl, by simp, fun t c h => by simp at h⟩
/-- a lot with one beginning more -/
theorem lot_more {T : List (List Nat)} {t : List Nat} {c : Nat} (h : Lot T) (ht : t ∈ T) : Lot (more T (t ++ [c])) := by
  refine ⟨?_, more_nodup h.nd _, fun u d hu => ?_⟩
  · unfold more
    split
    · exact h.first
    · rw [List.getElem?_append_left (by have := (List.getElem?_eq_some_iff.mp h.first).1; exact this)]
      exact h.first
  · rw [mem_more] at hu ⊢
    rcases hu with hu | hu
    · exact .inl (h.closed _ _ hu)
    · obtain ⟨rfl, _⟩ := List.append_inj' hu rfl
      exact .inl ht
theorem lot_len {T : List (List Nat)} (h : Lot T) {t : List Nat} (ht : t ∈ T) : t.length < T.length := by
  have pre : ∀ k j, j + k = t.length → t.take j ∈ T := by
    intro k
    induction k with
    | zero =>
      intro j e
      rw [List.take_of_length_le (by omega)]
      exact ht
    | succ k ih =>
      intro j e
      have z := ih (j + 1) (by omega)
      rw [List.take_add_one, List.getElem?_eq_getElem (show j < t.length by omega)] at z
      exact h.closed _ _ z
  have mem : ∀ j, j ≤ t.length → t.take j ∈ T := fun j hj => pre (t.length - j) j (by omega)
  have at_ : ∀ u, u ∈ T → T[T.idxOf u]? = some u := fun u hu => by
    rw [List.getElem?_eq_getElem (List.idxOf_lt_length_of_mem hu), List.getElem_idxOf]
  have lt1 : ∀ x ∈ (List.range (t.length + 1)).map fun j => T.idxOf (t.take j), x < T.length := fun x hx => by
    obtain ⟨j, hj, rfl⟩ := List.mem_map.mp hx
    exact List.idxOf_lt_length_of_mem (mem j (by have := List.mem_range.mp hj; omega))
  have nd : ((List.range (t.length + 1)).map fun j => T.idxOf (t.take j)).Nodup := by
    refine List.pairwise_map.mpr (List.Pairwise.imp_of_mem (fun {p q} hp hq ne e => ne ?_) List.nodup_range)
    have p1 := List.mem_range.mp hp
    have q1 := List.mem_range.mp hq
    have e1 := at_ _ (mem p (by omega))
    rw [e, at_ _ (mem q (by omega))] at e1
    have e2 := congrArg List.length (Option.some.inj e1)
    rw [List.length_take, List.length_take] at e2
    omega
  have z := nodup_lt T.length _ nd lt1
  rw [List.length_map, List.length_range] at z
  omega
theorem idx_at {T : List (List Nat)} (nd : T.Nodup) {i : Nat} {u : List Nat} (h : T[i]? = some u) : T.idxOf u = i := by
  have m := List.mem_of_getElem? h
  have lt := List.idxOf_lt_length_of_mem m
  have e : T[T.idxOf u] = u := List.getElem_idxOf lt
  obtain ⟨hi, h⟩ := List.getElem?_eq_some_iff.mp h
  exact (List.getElem_inj nd).mp (e.trans h.symm)
/-- finite(letters, *texts), the texts in a tuple -/
def spFt0 (K : PySem.W.Frag) (C CB CT : Addr) : Sp := fun vs H Q E => ∃ (v : V) (p : Addr) (tvs : List V) (yl : Option Str) (ys : List (Option Str)), vs = [v, .ref p] ∧ H p = some (.tup tvs) ∧ StrOr K H v yl ∧ StrsOr K H tvs ys ∧ ((wsOf ys).map fun x => x.length + 1).sum ≤ 800 ∧ tvs.length ≤ 800 ∧
  (okL yl = false → RefV CB "part" (.str "letters") H E) ∧
  (∀ a, yl = some a → letB a = true →
    (∀ (i : Nat) (x : V) (y' : Option Str), tvs[i]? = some x → ys[i]? = some y' → okT a y' = false → (∀ (j : Nat) (z : Option Str), j < i → ys[j]? = some z → okT a z = true) → RefV CT "value" x H E) ∧
    ((∀ z ∈ ys, okT a z = true) → ∀ (q : Addr) (R : List (List Nat)) (eR : List Nat) H', Same H H' → LG C H' q a R eR → (∀ w : List Nat, (∀ i ∈ w, i < a.length) → (Wd R eR w = true ↔ back (cp a) w ∈ wsOf ys)) → R.length ≤ 900 → Q (.ref q) H'))
section
variable {P : Program} {w : World} {K : PySem.W.Frag} {mg : Str → Option Value} {base : Heap} {C CB CT : Addr}
theorem scFt : FnScope nFt ((["letters"] : List Str) ++ (["texts"] : List Str)) (defScope sFt) := ⟨rfl, rfl, rfl, by decide +kernel, rfl, by decide +kernel, by decide +kernel⟩
theorem ok_ft {f fC fF fI : Addr} {fd fdC fdF fdI : FuncData} (F : Fun K "finite" "finite" sFt f fd) (T : TxtMk K mg C)
    (GC : FnOk P w K mg base (L2.CX P w) 3 fC fdC ["letters", "texts"] (spCk K CB CT)) (bC : L2.Binds K fdC ["letters", "texts"] []) (kC : PySem.W.keepIn K (.ref fC) = true) (mC : mg "check" = some (.ref fC))
    (GF : FnOk P w K mg base CX0 1 fF fdF ["rows"] spFz) (bF : L2.Binds K fdF ["rows"] []) (kF : PySem.W.keepIn K (.ref fF) = true) (mF : mg "frozen" = some (.ref fF))
    (M : Mk K C fI) (GI : FnOk P w K mg base CX0 5 fI fdI ["self", "letters", "rows", "ends"] (spLMake C)) (bI : L2.Binds K fdI ["self", "letters", "rows", "ends"] []) :
    FnR P w K mg base (L2.CX P w) 7 f (fun vs H Q E => ∃ ws rest, vs = ws ++ rest ∧ ws.length = 1 ∧ rest.length ≤ sizeLine ∧ ∀ p, H p = Option.none → spFt0 K C CB CT (ws ++ [V.ref p]) (upd H p (.tup rest)) Q E) := by
  obtain ⟨oc, od, kV', doc, pm, an, cdv, ct, osl, rfl, lk, hcd⟩ := F.ex
  have hb := StX.bind_star1 (B := fun us => bindArgs (PySem.W.fnOf "finite" "finite" (defArgs sFt) (defBody sFt) (defScope sFt) .none kV' doc pm an cdv ct) ⟨us, []⟩) (p1 := "letters") (pv := "texts") (fun a => by rfl) (fun a r rs => by rfl)
  refine StX.fn_star (ps := ["letters"]) (pv := "texts") (sp := spFt0 K C CB CT) lk hcd scFt StX.cxUp hb fun A outer s H vs Q E hr h => ?_
  obtain ⟨v, p, tvs, yl, ys, rfl, hp, hv, hys, few, fewt, q1, q2⟩ := h
  have hu := hu_of hr
  have hr1 : Room 1 _ := hr.mono (by decide)
  have hr3 : Room 3 _ := hr.mono (by decide)
  refine ⟨_, (pss_cons (ps_expr (pe_call GC hr3 rfl mC kC bC .nil (passes_call (takes_of rfl rfl rfl rfl) (fun _ _ _ _ h => h)) (pa_cons (pv 0) (pa_cons (pv 1) pa_nil))))
    (pss_cons (ps_set (i := 2) scFt.nd rfl (Or.inr rfl) (pe_disp (pps_cons pe_str pe_int pps_nil) (by rfl) (by rfl) (fun z => by cases z) (by decide)))
    (pss_cons (ps_for (passes_of rfl) rfl (pi_tup (pv 1)) (pg_name (i := 3) scFt.nd rfl (Or.inl rfl))
      (pss_one (ps_for (passes_of rfl) rfl (pi_range2 rfl T.range (pa_cons pe_int (pa_cons (pe_op op_add (pe_callB call_len_str (by rfl) T.len PySem.boot_len (pa_cons (pv 3) pa_nil)) pe_int) pa_nil))) (pg_name (i := 4) scFt.nd rfl (Or.inl rfl))
        (pss_one (ps_expr (pe_dsetd (pv 2) (pe_slice sl_str (pv 3) po_none (po_some (pv 4))) (pe_callB call_lenD (by rfl) T.len PySem.boot_len (pa_cons (pv 2) pa_nil)) ⟨rfl, rfl, rfl, rfl⟩))))))
    (pss_cons (ps_set (i := 5) scFt.nd rfl (Or.inr rfl) (pe_callB call_lenD (by rfl) T.len PySem.boot_len (pa_cons (pv 2) pa_nil)))
    (pss_cons (ps_lock (ps_setLc (i := 6) (own := [("begun", 8)]) (g := gName 8) (tt := tYes) rfl scFt.nd rfl rfl (sw_true rfl rfl rfl (by decide +kernel)) (pi_keys (pv 2)) (blkOk_by (N := nFt) (sc := defScope sFt) (by decide +kernel)) (fun _ _ _ _ _ => by exact (pg_name (i := 8) scFt.nd rfl (Or.inr rfl))) (fun _ _ _ _ _ => pts_nil)
      (fun _ _ _ _ _ => by exact (pe_lc (own := [("letter", 9)]) (g := gName 9) (tt := tYes) rfl scFt.nd (pi_str (pv 0)) (blkOk_by (N := nFt) (sc := scInFt) (by decide +kernel)) (fun _ _ _ _ _ => by exact (pg_name (i := 9) scFt.nd rfl (Or.inl rfl))) (fun _ _ _ _ _ => pts_nil)
        (fun _ _ _ _ _ => by exact (pe_dget2 hu (pv 2) (pe_op op_add_str (pv 8) (pv 9)) (pv 5) ⟨rfl, rfl, rfl, rfl⟩))))))
    (pss_cons (ps_expr (pe_bm PySem.F.plainAttrs_list PySem.F.slot_list_append PySem.F.type_list_append mt_append (pv 6) (pa_cons (pe_op op_rep (pe_lst (pa_cons (pv 5) pa_nil)) (pe_callB call_len_str (by rfl) T.len PySem.boot_len (pa_cons (pv 0) pa_nil))) pa_nil)))
    (pss_cons (ps_lock (ps_set (i := 7) scFt.nd rfl (Or.inl rfl) (pe_callTy call_tuple_of (by rfl) T.tuple (by decide +kernel) (pa_cons (pe_lc (own := [("begun", 8), ("number", 10)]) (g := gTup K 2 (gCons (gName 8) (gCons (gName 10) gNil))) (tt := _) rfl scFt.nd (pi_items (pv 2)) (blkOk_by (N := nFt) (sc := defScope sFt) (by decide +kernel)) (fun _ _ _ _ _ => by exact (pg_tup rfl (pgs_cons (pg_name (i := 8) scFt.nd rfl (Or.inl rfl)) (pgs_cons (pg_name (i := 10) scFt.nd rfl (Or.inl rfl)) pgs_nil)))) (fun _ _ _ _ _ => by exact pts_one (pt_cmpR (inqL_at (K := K) rfl) (pv 8) (pv 1) (by rfl))) (fun _ _ _ _ _ => by exact (pv 10))) pa_nil))))
    (pss_one (ps_ret (pe_make M GI hr (by rfl) T.gL bI .nil pass0 (pa_cons (pv 0) (pa_cons (pe_call GF hr1 rfl mF kF bF .nil pass0 (pa_cons (pv 6) pa_nil)) (pa_cons (pv 7) pa_nil))))))))))))), ?_⟩
  refine ⟨_, rfl, _, rfl, v, yl, p, tvs, ys, rfl, hv, SqT.of hp, hys, q1, fun a e c => ⟨(q2 a e c).1, fun all H2 s2 => ?_⟩⟩
  subst e
  obtain ⟨rfl, ha, h8⟩ := id hv
  have X : Abc a := ⟨c, h8⟩
  obtain ⟨x1, x4⟩ := X.four
  have la : (cp a).length = a.length := by rw [Array.length_toList]; rfl
  refine fun d hd => ⟨upd_same, [(kS [], nI 0)], rfl, by decide, ?_⟩
  have hdd : upd (upd H2 d (.dK [])) d (.dK (mergeK [] [(kS [], nI 0)])) d = some (.dK (entK (fun t => nI (List.idxOf t [([] : List Nat)])) [[]])) := by
    rw [upd_same]
    rfl
  have s3 : Same H2 (upd (upd H2 d (.dK [])) d (.dK (mergeK [] [(kS [], nI 0)]))) := fun b o e => by
    rw [upd_ne (ne_of_none e hd), upd_ne (ne_of_none e hd)]
    exact e
  generalize upd (upd H2 d (.dK [])) d (.dK (mergeK [] [(kS [], nI 0)])) = H3 at hdd s3 ⊢
  have s23 := s2.trans s3
  have hp3 := s23 _ _ hp
  refine ⟨_, rfl, p, rfl, ⟨tvs, SqT.of hp3⟩, ?_⟩
  refine for_tup (K := K) (a := p) (xs := tvs) (fun i σ H' => ∃ (T : List (List Nat)) (v3 v4 : Option V), σ = [some (.str a), some (.ref p), some (.ref d), v3, v4, none, none, none, none, none, none] ∧ Lot T ∧ T.length ≤ 1 + (((wsOf ys).take i).map fun x => x.length + 1).sum ∧ (∀ z ∈ (wsOf ys).take i, z ∈ T) ∧ H' d = some (.dK (entK (fun t => nI (T.idxOf t)) T)) ∧ Same H2 H')
    ⟨[[]], none, none, rfl, lot_one, Nat.le_refl _, (fun z h => nomatch h), hdd, s3⟩ (fun i σ H' _ ⟨_, _, _, _, _, _, _, _, s⟩ => SqT.of ((s2.trans s) _ _ hp)) ?_ ?_
  · rintro i y σ H4 hi ⟨T, v3, v4, rfl, l1, l2, l3, l4, s4⟩
    obtain ⟨y', hy'⟩ : ∃ y', ys[i]? = some y' := ⟨_, List.getElem?_eq_getElem (by rw [← hys.1]; exact (List.getElem?_eq_some_iff.mp hi).1)⟩
    have hst := hys.2 i y y' hi hy'
    have hok := all y' (List.mem_of_getElem? hy')
    cases y' with
    | none => exact nomatch (show false = true from hok)
    | some t =>
      obtain ⟨rfl, ht, h8t⟩ := id hst
      have hws : (wsOf ys)[i]? = some (cp t) := by
        unfold wsOf
        rw [List.getElem?_map, hy']
        rfl
      have lt' : t.length = (cp t).length := by rw [Array.length_toList]; rfl
      have sum1 : (((wsOf ys).take (i + 1)).map fun x => x.length + 1).sum = (((wsOf ys).take i).map fun x => x.length + 1).sum + (t.length + 1) := by
        rw [List.take_add_one, hws, List.map_append, List.sum_append, lt']
        rfl
      have sum2 : (((wsOf ys).take (i + 1)).map fun x => x.length + 1).sum ≤ 800 := by
        rw [List.map_take]
        exact Nat.le_trans (sum_take_le _ _) few
      have t8 : t.length ≤ 800 := by omega
      have d0 := l4
      refine ⟨_, rfl, t, rfl, Nat.le_trans t8 (by decide), _, _, rfl, rfl, 1, (t.length : Int) + 1, rfl, ⟨by omega, by omega, by omega, by omega⟩, ?_⟩
      rw [show ((t.length : Int) + 1 - 1).toNat = t.length by omega]
      refine for_range (lo := 1) (n := t.length) (fun j σ H' => ∃ (T' : List (List Nat)) (v4 : Option V), σ = [some (.str a), some (.ref p), some (.ref d), some (.str t), v4, none, none, none, none, none, none] ∧ Lot T' ∧ T'.length ≤ T.length + j ∧ (cp t).take j ∈ T' ∧ (∀ z ∈ T, z ∈ T') ∧ H' d = some (.dK (entK (fun t => nI (T'.idxOf t)) T')) ∧ Same H2 H')
        ⟨T, v4, rfl, l1, Nat.le_refl _, List.mem_of_getElem? l1.first, (fun _ h => h), l4, s4⟩ ?_ ?_
      · rintro j σ H5 hj ⟨T', v4', rfl, k1, k2, k3, k4, k5, s5⟩
        obtain ⟨c0, hc0⟩ : ∃ c0, (cp t)[j]? = some c0 := ⟨_, List.getElem?_eq_getElem (by rw [← lt']; exact hj)⟩
        have hjt : (cp t).take (j + 1) = (cp t).take j ++ [c0] := by rw [List.take_add_one, hc0]; rfl
        rw [show (1 : Int) + (j : Nat) = ((j + 1 : Nat) : Int) by omega]
        have e0 : cutS t none (some ((j + 1 : Nat) : Int)) = mkS ((cp t).take (j + 1)) := by
          rw [eta_S t]
          exact cut_head (j + 1)
        have kl : T'.length ≤ 1700 := by omega
        refine ⟨_, rfl, d, rfl, .inl ⟨_, .inl k5⟩, _, rfl, _, rfl, _, rfl, t, rfl, Nat.le_trans t8 (by decide), _, rfl, d, _, rfl, k5, _, kS ((cp t).take (j + 1)), k5, by rw [e0]; rfl, by rw [entK_length]; exact Nat.lt_of_le_of_lt kl (by decide), fun v e => ?_, fun e => ?_⟩
        · rw [valV_ent] at e
          have m : (cp t).take (j + 1) ∈ T' := by
            by_cases m : (cp t).take (j + 1) ∈ T'
            · exact m
            · rw [if_neg m] at e
              exact nomatch e
          exact ⟨T', _, rfl, k1, by omega, m, k4, k5, s5⟩
        · rw [valV_ent] at e
          have m : (cp t).take (j + 1) ∉ T' := fun m => by
            rw [if_pos m] at e
            exact nomatch e
          refine ⟨more T' ((cp t).take (j + 1)), _, rfl, ?_, ?_, mem_more.mpr (.inr rfl), fun z hz => mem_more.mpr (.inl (k4 z hz)), ?_, fun b' o' e' => ?_⟩
          · rw [hjt]
            exact lot_more k1 k3
          · have := more_length T' ((cp t).take (j + 1))
            omega
          · rw [upd_same, putK_ent]
            refine congrArg (fun x => some (HO.dK x)) (entK_congr fun q hq => ?_)
            unfold at' more
            rw [if_neg m]
            by_cases c : q = (cp t).take (j + 1)
            · rw [if_pos c, c, List.idxOf_append, if_neg m, List.idxOf_cons_self, entK_length, Nat.zero_add]
            · rw [if_neg c]
              have hq' : q ∈ T' := by
                rcases mem_more.mp hq with h | h
                · exact h
                · exact absurd h c
              rw [List.idxOf_append, if_pos hq']
          · rw [upd_ne (ne_of_none e' (show H2 d = none from ?_))]
            · exact s5 _ _ e'
            · exact hd
      rintro σ H5 ⟨T', v4', rfl, k1, k2, k3, k4, k5, s5⟩
      refine ⟨T', _, _, rfl, k1, by omega, fun z hz => ?_, k5, s5⟩
      rw [List.take_add_one, hws] at hz
      rcases List.mem_append.mp hz with h | h
      · exact k4 z (l3 z h)
      · obtain rfl := List.mem_singleton.mp h
        rw [lt', List.take_length] at k3
        exact k3
  rintro σ H4 ⟨T, v3, v4, rfl, l1, l2, l3, l4, s4⟩
  have wl : (wsOf ys).length = tvs.length := by unfold wsOf; rw [List.length_map, hys.1]
  rw [List.take_of_length_le (Nat.le_of_eq wl)] at l2 l3
  have tl : T.length ≤ 801 := by omega
  refine ⟨_, rfl, d, _, rfl, l4, ?_⟩
  rw [entK_length]
  refine ⟨d, _, l4, trivial, fun od => ?_⟩
  refine ⟨_, rfl, d, od, rfl, .inl ⟨_, upd_same, fun D hD => ?_⟩⟩
  have hr0 : (ftR (cp a) T).length = T.length + 1 := by unfold ftR; rw [List.length_map, List.length_range]
  refine lc_it walk_keys (fun i H' => ∃ bs, H' D = some (.lst bs) ∧ NLs H' bs ((ftR (cp a) T).take i) ∧ V.ref D ∉ bs ∧ Same (upd H4 d (.frz od (.dK (entK (fun t => nI (T.idxOf t)) T)))) H') ⟨[], upd_same, NLs.nil _, (fun h => nomatch h), same_new hD _⟩ (fun i H' _ ⟨_, _, _, _, s⟩ => s _ _ upd_same) ?_ ?_
  · rintro i y H6 H5 hi ⟨bs, n1, n2, n3, s5⟩ ⟨rfl, kk, vv, hkv, rfl⟩
    rw [entK_length] at hi
    obtain ⟨u, hu', ep⟩ : ∃ u, T[i]? = some u ∧ (kS u, nI (T.idxOf u)) = (kk, vv) := by
      unfold entK at hkv
      rw [List.getElem?_map] at hkv
      exact Option.map_eq_some_iff.mp hkv
    cases ep
    obtain ⟨row, hrow⟩ : ∃ row, row = (cp a).map fun c => ftF T (u ++ [c]) := ⟨_, rfl⟩
    have hri : (ftR (cp a) T)[i]? = some row := by
      unfold ftR
      rw [List.getElem?_map, List.getElem?_range (by omega), Option.map_some, if_pos hi, List.getD_eq_getElem?_getD, hu', hrow]
      rfl
    refine ⟨rfl, _, rfl, a, rfl, fun D2 hD2 => ?_⟩
    have hne : D2 ≠ D := (ne_of_none n1 hD2).symm
    refine lc_it walk_str (fun j H' => H' D2 = some (.lst ((row.take j).map nI)) ∧ Same H5 H') ⟨upd_same, same_new hD2 _⟩ (fun _ _ _ _ => trivial) ?_ ?_
    · rintro j y H7 H8 hj ⟨m1, m2⟩ ⟨rfl, c0, hc, rfl⟩
      have hc' : (cp a)[j]? = some c0 := by rw [Array.getElem?_toList]; exact hc
      have er : Rd H8 d (.dK (entK (fun t => nI (T.idxOf t)) T)) := .inr ⟨od, m2 _ _ (s5 _ _ upd_same)⟩
      refine ⟨rfl, _, rfl, d, rfl, .inl ⟨_, er⟩, _, rfl, _, rfl, _, _, rfl, rfl, ?_, ?_⟩
      · have := lot_len l1 (List.mem_of_getElem? hu')
        show u.toArray.size + 1 ≤ _
        rw [List.size_toArray]
        exact Nat.le_trans (show _ ≤ 900 by omega) (by decide)
      have hjr : row[j]? = some (ftF T (u ++ [c0])) := by rw [hrow, List.getElem?_map, hc']; rfl
      have eu : mkS u ++ (⟨#[c0]⟩ : Str) = mkS (u ++ [c0]) := by
        have z : cp (mkS u ++ (⟨#[c0]⟩ : Str)) = u ++ [c0] := by
          show (u.toArray ++ #[c0]).toList = _
          simp
        rw [eta_S (mkS u ++ (⟨#[c0]⟩ : Str)), z]
      have ev : (valV (entK (fun t => nI (T.idxOf t)) T) (kS (u ++ [c0]))).getD (V.int (T.length : Nat)) = nI (ftF T (u ++ [c0])) := by
        rw [valV_ent]
        unfold ftF
        by_cases m : u ++ [c0] ∈ T
        · rw [if_pos m, if_pos m]
          rfl
        · rw [if_neg m, if_neg m]
          rfl
      refine ⟨_, rfl, _, .inl ⟨_, kS (u ++ [c0]), er, congrArg V.str eu, rfl⟩, _, m1, ?_, ?_, fun b' o' e' => ?_⟩
      · rw [List.length_map]
        refine Nat.lt_of_le_of_lt (List.length_take_le' _ _) ?_
        rw [hrow, List.length_map, la]
        exact Nat.lt_of_le_of_lt x4 (by decide)
      · rw [upd_same, List.take_add_one, hjr, List.map_append, ev]
        rfl
      · rw [upd_ne (ne_of_none e' hD2)]
        exact m2 _ _ e'
    · rintro H7 ⟨m1, m2⟩
      have m1 : H7 D2 = some (.lst (row.map nI)) := by
        rw [m1, List.take_of_length_le]
        rw [hrow, List.length_map]
        exact Nat.le_of_eq (by rw [Array.length_toList])
      have n1' := m2 _ _ n1
      refine ⟨_, n1', ?_, bs ++ [.ref D2], upd_same, ?_, fun z => ?_, fun b' o' e' => ?_⟩
      · rw [n2.1]
        refine Nat.lt_of_le_of_lt (List.length_take_le' _ _) ?_
        rw [hr0]
        exact Nat.lt_of_le_of_lt (show _ ≤ 802 by omega) (by decide)
      · rw [List.take_add_one, hri]
        refine ((n2.same m2).snoc m1).keep fun q' xs e hb => ?_
        have : q' ≠ D := fun z => by
          subst z
          rcases List.mem_append.mp hb with h | h
          · exact n3 h
          · exact hne (V.ref.inj (List.mem_singleton.mp h)).symm
        rw [upd_ne this]
        exact e
      · rcases List.mem_append.mp z with h | h
        · exact n3 h
        · exact hne (V.ref.inj (List.mem_singleton.mp h)).symm
      · rw [upd_ne (ne_of_none e' hD)]
        exact m2 _ _ (s5 _ _ e')
  rintro H5 ⟨bs, n1, n2, n3, s5⟩
  rw [entK_length] at n2
  refine ⟨s5 _ _ upd_same, ?_⟩
  have hD4 : H4 D = none := by
    have c : D ≠ d := fun z => by
      subst z
      rw [upd_same] at hD
      exact nomatch hD
    rw [upd_ne c] at hD
    exact hD
  have frz5 := s5 _ _ (show upd H4 d (.frz od (.dK (entK (fun t => nI (T.idxOf t)) T))) d = _ from upd_same)
  have s45 : Same H4 (upd H5 d (.dK (entK (fun t => nI (T.idxOf t)) T))) := fun b o e => by
    by_cases c : b = d
    · subst c
      rw [upd_same, ← l4, e]
    · rw [upd_ne c]
      refine s5 _ _ ?_
      rw [upd_ne c]
      exact e
  have n1' : upd H5 d (.dK (entK (fun t => nI (T.idxOf t)) T)) D = some (.lst bs) := by
    rw [upd_ne (ne_of n1 frz5 (fun z => nomatch z))]
    exact n1
  have n2' : NLs (upd H5 d (.dK (entK (fun t => nI (T.idxOf t)) T))) bs ((ftR (cp a) T).take T.length) := n2.keep fun q' xs e hb => by
    rw [upd_ne (ne_of e frz5 (fun z => nomatch z))]
    exact e
  have hd6 : upd H5 d (.dK (entK (fun t => nI (T.idxOf t)) T)) d = some (.dK (entK (fun t => nI (T.idxOf t)) T)) := upd_same
  show tSeq _ _ _ [some (.str a), some (.ref p), some (.ref d), v3, v4, some (.int (T.length : Nat)), some (.ref D), none, none, none, none] _
  generalize upd H5 d (.dK (entK (fun t => nI (T.idxOf t)) T)) = H6 at s45 n1' n2' hd6 ⊢
  clear frz5 n1 n2 s5
  have ka : (a.length : Int).toNat = a.length := by omega
  refine ⟨_, rfl, .inl ⟨rfl, _, SqL.of n1'⟩, _, rfl, (by show 1 ≤ sizeLine; decide), fun z1 hz1 => ?_⟩
  have t1 := same_new hz1 (.lst [V.int (T.length : Nat)])
  refine ⟨_, rfl, a, rfl, Nat.le_trans x4 (by decide), z1, (a.length : Int), _, rfl, rfl, upd_same, by omega, by omega, ?_, fun l2 hl2 => ?_⟩
  · show 1 * ((a.length : Int)).toNat ≤ sizeLine
    rw [ka, sizeLine_eq]
    omega
  have t2 := same_new hl2 (.lst (List.replicate ((a.length : Int)).toNat [V.int (T.length : Nat)]).flatten)
  have hl2D : l2 ≠ D := (ne_of_none (t1 _ _ n1') hl2).symm
  have el2 : upd (upd H6 z1 (.lst [V.int (T.length : Nat)])) l2 (.lst (List.replicate ((a.length : Int)).toNat [V.int (T.length : Nat)]).flatten) l2 = some (.lst ((List.replicate (cp a).length T.length).map nI)) := by
    rw [upd_same, ka, flat_rep, List.map_replicate, la]
  have t12 := t1.trans t2
  generalize upd (upd H6 z1 (.lst [V.int (T.length : Nat)])) l2 (.lst (List.replicate ((a.length : Int)).toNat [V.int (T.length : Nat)]).flatten) = H7 at el2 t12 ⊢
  have n1'' := t12 _ _ n1'
  have lft : (ftR (cp a) T).take (T.length + 1) = ftR (cp a) T := List.take_of_length_le (by rw [hr0]; exact Nat.le_refl _)
  have bl : bs.length = T.length := by rw [n2'.1, List.length_take, hr0]; omega
  refine ⟨D, bs, _, rfl, rfl, n1'', by rw [bl, sizeLine_eq]; omega, ?_⟩
  have m2 : NLs (upd H7 D (.lst (bs ++ [.ref l2]))) (bs ++ [.ref l2]) (ftR (cp a) T) := by
    rw [← lft, List.take_add_one, show (ftR (cp a) T)[T.length]? = some (List.replicate (cp a).length T.length) from ?_]
    · refine ((n2'.same t12).snoc el2).keep fun q' xs e hb => ?_
      rw [upd_ne]
      · exact e
      · rintro rfl
        rcases List.mem_append.mp hb with h | h
        · exact n3 h
        · exact hl2D (V.ref.inj (List.mem_singleton.mp h)).symm
    · unfold ftR
      rw [List.getElem?_map, List.getElem?_range (Nat.lt_succ_self _), Option.map_some, if_neg (Nat.lt_irrefl _)]
  have m1 : upd H7 D (.lst (bs ++ [.ref l2])) D = some (.lst (bs ++ [.ref l2])) := upd_same
  have s46 : Same H2 (upd H7 D (.lst (bs ++ [.ref l2]))) := fun b' o' e' => by
    rw [upd_ne (ne_of_none (s4 _ _ e') hD4)]
    exact t12 _ _ (s45 _ _ (s4 _ _ e'))
  have hd7 : upd H7 D (.lst (bs ++ [.ref l2])) d = some (.dK (entK (fun t => nI (T.idxOf t)) T)) := by
    rw [upd_ne (ne_of (t12 _ _ hd6) n1'' (fun z => nomatch z))]
    exact t12 _ _ hd6
  show tSeq _ _ _ [some (.str a), some (.ref p), some (.ref d), v3, v4, some (.int (T.length : Nat)), some (.ref D), none, none, none, none] _
  generalize upd H7 D (.lst (bs ++ [.ref l2])) = H8 at m1 m2 s46 hd7 ⊢
  refine ⟨d, _, hd7, trivial, fun od2 => ?_⟩
  have hp8 : upd H8 d (.frz od2 (.dK (entK (fun t => nI (T.idxOf t)) T))) p = some (.tup tvs) := by
    rw [upd_ne (ne_of (s46 _ _ (s2 _ _ hp)) hd7 (fun z => nomatch z))]
    exact s46 _ _ (s2 _ _ hp)
  refine ⟨_, rfl, d, od2, _, rfl, upd_same, fun D3 hD3 => ?_⟩
  refine lc_it walk_items (fun i H' => H' D3 = some (.lst (((List.range i).filter fun j => decide (T.getD j [] ∈ wsOf ys)).map nI)) ∧ Same (upd H8 d (.frz od2 (.dK (entK (fun t => nI (T.idxOf t)) T)))) H') ⟨upd_same, same_new hD3 _⟩ (fun i H' _ ⟨_, s⟩ => s _ _ upd_same) ?_ ?_
  have tv_ := strs_all hys all
  · rintro i y H9 H10 hi ⟨u1, u2⟩ ⟨T1, x1, y1, rfl, hT, rfl, e1, e2⟩
    rw [entK_length] at hi
    obtain ⟨u, hu'⟩ : ∃ u, T[i]? = some u := ⟨_, List.getElem?_eq_getElem hi⟩
    have ent : (entK (fun t => nI (T.idxOf t)) T)[i]? = some (kS u, nI (T.idxOf u)) := by
      unfold entK
      rw [List.getElem?_map, hu']
      rfl
    have e1' : ((entK (fun t => nI (T.idxOf t)) T)[i]?).map (fun kv => kV kv.1) = some x1 := e1
    have e2' : ((entK (fun t => nI (T.idxOf t)) T)[i]?).map Prod.snd = some y1 := e2
    rw [ent] at e1' e2'
    obtain rfl : V.str (mkS u) = x1 := Option.some.inj e1'
    obtain rfl : nI (T.idxOf u) = y1 := Option.some.inj e2'
    have hdx : T.idxOf u = i := idx_at l1.nd hu'
    rw [hdx]
    have hgd : T.getD i [] = u := by rw [List.getD_eq_getElem?_getD, hu']; rfl
    have hp10 := same_new hT (.tup [V.str (mkS u), nI (T.idxOf u)]) _ _ (u2 _ _ hp8)
    rw [hdx] at hp10
    have u1' := same_new hT (.tup [V.str (mkS u), nI (T.idxOf u)]) _ _ u1
    rw [hdx] at u1'
    refine ⟨T1, _, rfl, SqT.of upd_same, rfl, _, _, rfl, _, _, rfl, rfl, rfl, _, rfl, _, rfl, p, _, rfl, .inr (SqT.of hp10), rfl, ?_, _, rfl, ?_⟩
    · rw [tv_]
      exact flats_str _
    rw [if_neg Bool.false_ne_true, tv_, inv_str]
    refine ite2 (fun c => ⟨_, rfl, _, u1', ?_, ?_, fun b u e => ?_⟩) (fun c => ⟨?_, fun b u e => ?_⟩)
    · rw [List.length_map]
      refine Nat.lt_of_le_of_lt (List.length_filter_le _ _) ?_
      rw [List.length_range, sizeLine_eq]
      omega
    · have c' : T.getD i [] ∈ wsOf ys := by rw [hgd]; exact mkS_mem.mp (of_decide_eq_true c)
      rw [upd_same, List.range_succ, List.filter_append, List.map_append]
      rw [show ([i].filter fun j => decide (T.getD j [] ∈ wsOf ys)) = [i] by rw [List.filter_cons]; rw [if_pos (decide_eq_true c')]; rfl]
      rfl
    · rw [upd_ne (ne_of_none e hD3)]
      exact same_new hT _ _ _ (u2 b u e)
    · have c' : ¬ T.getD i [] ∈ wsOf ys := by
        rw [hgd]
        exact fun z => c (decide_eq_true (mkS_mem.mpr z))
      rw [u1', List.range_succ, List.filter_append]
      rw [show ([i].filter fun j => decide (T.getD j [] ∈ wsOf ys)) = [] by rw [List.filter_cons]; rw [if_neg fun z => c' (of_decide_eq_true z)]; rfl]
      rw [List.append_nil]
    · exact same_new hT _ _ _ (u2 b u e)
  rintro H9 ⟨u1, u2⟩
  refine ⟨D3, _, rfl, .inl ⟨SqL.of u1, fun te hte => ?_⟩⟩
  have s7 := same_new hte (.tup (((List.range (entK (fun t => nI (T.idxOf t)) T).length).filter fun j => decide (T.getD j [] ∈ wsOf ys)).map nI))
  have ete : upd H9 te (.tup (((List.range (entK (fun t => nI (T.idxOf t)) T).length).filter fun j => decide (T.getD j [] ∈ wsOf ys)).map nI)) te = some (.tup ((ftE T (wsOf ys)).map nI)) := by
    rw [upd_same, entK_length]
    rfl
  have frz9 := s7 _ _ (u2 _ _ (show upd H8 d (.frz od2 (.dK (entK (fun t => nI (T.idxOf t)) T))) d = _ from upd_same))
  refine ⟨frz9, ?_⟩
  have s8 : Same H8 (upd (upd H9 te (.tup (((List.range (entK (fun t => nI (T.idxOf t)) T).length).filter fun j => decide (T.getD j [] ∈ wsOf ys)).map nI))) d (.dK (entK (fun t => nI (T.idxOf t)) T))) := fun b o e => by
    by_cases c : b = d
    · subst c
      rw [upd_same, ← hd7, e]
    · rw [upd_ne c]
      refine s7 _ _ (u2 _ _ ?_)
      rw [upd_ne c]
      exact e
  have ete' : upd (upd H9 te (.tup (((List.range (entK (fun t => nI (T.idxOf t)) T).length).filter fun j => decide (T.getD j [] ∈ wsOf ys)).map nI))) d (.dK (entK (fun t => nI (T.idxOf t)) T)) te = some (.tup ((ftE T (wsOf ys)).map nI)) := by
    rw [upd_ne (ne_of ete frz9 (fun z => nomatch z))]
    exact ete
  dsimp only
  generalize upd (upd H9 te (.tup (((List.range (entK (fun t => nI (T.idxOf t)) T).length).filter fun j => decide (T.getD j [] ∈ wsOf ys)).map nI))) d (.dK (entK (fun t => nI (T.idxOf t)) T)) = H10 at s8 ete' ⊢
  refine ⟨_, rfl, _, rfl, D, _, rfl, ⟨_, s8 _ _ m1, m2.same s8⟩, by rw [hr0]; omega, fun vr H11 s11 hM => ?_⟩
  have Mm : Mach (ftR (cp a) T) a.length (ftE T (wsOf ys)) := by
    have z := finite_mach (L := cp a) (T := T) (ts := wsOf ys) (by omega) (by omega)
    rw [la] at z
    exact z
  refine ⟨_, rfl, fun x px hx hpx hpne => lang_make Mm X.lets X.asc hM ⟨te, rfl, s11 _ _ ete'⟩ hx hpx hpne fun B1 e1 H12 s12 hL K1 K2 => ⟨rfl, ?_⟩⟩
  refine (q2 a rfl c).2 all x B1 e1 H12 ((s2.trans s46).trans (s8.trans (s11.trans s12))) ⟨hL, K1⟩ (fun w hw => ?_) ?_
  · have z := finite_lang (L := cp a) (T := T) (ts := wsOf ys) (w := w) l1 l3 (by rw [la]; exact hw)
    unfold Wd
    rw [decide_eq_true_iff]
    exact (K2 w hw).trans z
  · have z := least_le K1 Mm.sq K2
    rw [hr0] at z
    omega
end
end Vf

set_option Elab.async false
set_option linter.all false
set_option maxRecDepth 100000
set_option maxHeartbeats 4000000
namespace Vf
open PySem PySem.Spec PyProof.Rows L2 L2.Vx Vs
/-! ### how far, and all words -/
abbrev sFar : Stmt := top 62
def farN (n : Nat) : Nat := if n = 1 then 12 else if n = 2 then 7 else if n = 3 then 5 else 4
def spFar : Sp := fun vs H Q _ => ∃ a : Str, vs = [.str a] ∧ 1 ≤ a.length ∧ a.length ≤ 4 ∧ ∀ H', Same H H' → Q (nI (farN a.length)) H'
def tabFar : List (Key × V) := [(.inl 1, .int 12), (.inl 2, .int 7), (.inl 3, .int 5), (.inl 4, .int 4)]
theorem tab_far {n : Nat} (h1 : 1 ≤ n) (h4 : n ≤ 4) : valV tabFar (Sum.inl (n : Int)) = some (nI (farN n)) := by
  have : n = 1 ∨ n = 2 ∨ n = 3 ∨ n = 4 := by omega
  rcases this with rfl | rfl | rfl | rfl <;> rfl
structure TxtW (mg : Str → Option Value) : Prop where
  len : mg "len" = none
  range : mg "range" = none
section
variable {P : Program} {w : World} {K : PySem.W.Frag} {mg : Str → Option Value} {base : Heap}
theorem scFar : FnScope ["_law_signs_here"] ["_law_signs_here"] (defScope sFar) := ⟨rfl, rfl, rfl, by decide +kernel, rfl, by decide +kernel, by decide +kernel⟩
theorem ok_far {f : Addr} {fd : FuncData} (F : Fun K "_law_far" "_law_far" sFar f fd) (T : TxtW mg) : FnOk P w K mg base CX0 1 f fd ["_law_signs_here"] spFar := by
  refine F.ok scFar (fun vs H Q E h => ?_) (fun cdv A outer s H vs Q E hr h => ?_)
  · obtain ⟨a, rfl, _⟩ := h
    rfl
  obtain ⟨a, rfl, h1, h4, q⟩ := h
  have hu := hu_of hr
  refine ⟨_, pss_one (ps_ret (pe_dget hu (pe_disp (pps_cons pe_int pe_int (pps_cons pe_int pe_int (pps_cons pe_int pe_int (pps_cons pe_int pe_int pps_nil)))) rfl rfl (by simp) (by decide)) (pe_callB call_len_str (by rfl) T.len PySem.boot_len (pa_cons (pv 0) pa_nil)) (fun _ _ => rfl))), ?_⟩
  intro p hp
  refine ⟨upd_same, tabFar, rfl, by decide, ?_⟩
  have e1 : upd (upd H p (.dK [])) p (.dK (mergeK [] tabFar)) p = some (.dK tabFar) := by rw [upd_same]; rfl
  have sm : Same H (upd (upd H p (.dK [])) p (.dK (mergeK [] tabFar))) := fun b o e => by
    rw [upd_ne (ne_of_none e hp), upd_ne (ne_of_none e hp)]
    exact e
  have g := DGet.k (k := Sum.inl (a.length : Int)) e1
  rw [show valV tabFar (Sum.inl (a.length : Int)) = some (nI (farN a.length)) from tab_far h1 h4] at g
  exact ⟨_, rfl, a, rfl, Nat.le_trans h4 (by decide), p, _, rfl, g, q _ sm⟩
end
end Vf

set_option Elab.async false
set_option linter.all false
set_option maxRecDepth 100000
set_option maxHeartbeats 4000000
namespace Vf
open PySem PySem.Spec PyProof.Rows L2 L2.Vx Vs
open PySem.Froz (sing)
abbrev sSigns : Stmt := top 60
/-! ### the mathematics of joined signs -/
theorem glue_nil : ∀ (l : List Str) (a : Array Nat), (l.foldl (fun acc p => acc ++ (#[] : Array Nat) ++ p.cps) a).toList = a.toList ++ l.flatMap (fun p => p.cps.toList)
  | [], a => by simp
  | p :: r, a => by
    rw [List.foldl_cons, glue_nil r]
    simp
theorem cp_join (ys : List Str) : cp (PySem.Txt.join "" ys) = ys.flatMap cp := by
  show ((ys.drop 1).foldl (fun acc p => acc ++ (#[] : Array Nat) ++ p.cps) (ys.headD Str.empty).cps).toList = _
  rw [glue_nil]
  cases ys with
  | nil => rfl
  | cons y r => simp [cp]
theorem flat_sings : ∀ zs : List Nat, (zs.map sing).flatMap cp = zs
  | [] => rfl
  | z :: r => by
    rw [List.map_cons, List.flatMap_cons, flat_sings r]
    rfl
theorem len_cp (x : Str) : x.length = (cp x).length := by rw [Array.length_toList]; rfl
theorem rising_cons (a b : Nat) (r : List Nat) : rising (a :: b :: r) = (decide (a < b) && rising (b :: r)) := by
  unfold rising
  show (List.range (r.length + 1)).all _ = (_ && (List.range r.length).all _)
  rw [List.range_succ_eq_map, List.all_cons, List.all_map]
  rfl
theorem rising_of : ∀ zs : List Nat, sortedS (zs.map sing) = true → zs.Nodup → rising zs = true
  | [], _, _ => rfl
  | [a], _, _ => rfl
  | a :: b :: r, h, d => by
    have h' : (!ltCps [b] [a] && sortedS ((b :: r).map sing)) = true := h
    obtain ⟨h1, h2⟩ := Bool.and_eq_true_iff.mp h'
    obtain ⟨d1, d2⟩ := List.nodup_cons.mp d
    rw [rising_cons, rising_of (b :: r) h2 d2, Bool.and_true]
    rw [ltCps_eq, lt1] at h1
    simp at h1
    have ne : a ≠ b := fun e => d1 (e ▸ List.mem_cons_self ..)
    exact decide_eq_true (by omega)
/-- texts of one sign each, up to their order -/
theorem sings_perm {ys : List Str} {zs : List Nat} (h : ys.Perm (zs.map sing)) : ∃ us : List Nat, ys = us.map sing ∧ us.Perm zs := by
  have e : ∀ y ∈ ys, sing ((cp y).headD 0) = y := fun y hy => by
    obtain ⟨c, _, rfl⟩ := List.mem_map.mp (h.mem_iff.mp hy)
    rfl
  refine ⟨ys.map fun y => (cp y).headD 0, ?_, ?_⟩
  · rw [List.map_map]
    refine Eq.trans (List.map_id ys).symm (List.map_congr_left fun y hy => ?_)
    exact (e y hy).symm
  · have q := h.map fun y => (cp y).headD 0
    rw [List.map_map] at q
    refine q.trans (List.Perm.of_eq ?_)
    refine Eq.trans (List.map_congr_left fun z _ => ?_) (List.map_id zs)
    rfl
abbrev abc : Str := "abcdefghijklmnopqrstuvwxyz"
theorem abc_az : ∀ c ∈ cp abc, azB c = true := List.all_eq_true.mp (show azs (cp abc) = true by decide +kernel)
theorem abc_nd : (cp abc).Nodup := by decide +kernel
theorem abc_len : (cp abc).length = 26 := by decide +kernel
/-- some of the letters, sorted and joined, are letters -/
theorem join_letters {found left : List Nat} {ys : List Str} (p : (found ++ left).Perm (cp abc)) (h1 : 1 ≤ found.length) (h4 : found.length ≤ 4) (hp : ys.Perm (found.map sing)) (hs : sortedS ys = true) :
    letB (PySem.Txt.join "" ys) = true ∧ (PySem.Txt.join "" ys).length ≤ 4 ∧ ∀ c ∈ cp (PySem.Txt.join "" ys), c < 128 := by
  obtain ⟨us, rfl, pu⟩ := sings_perm hp
  have e : cp (PySem.Txt.join "" (us.map sing)) = us := by rw [cp_join, flat_sings]
  have el : (PySem.Txt.join "" (us.map sing)).length = found.length := by rw [len_cp, e, pu.length_eq]
  have az : ∀ c ∈ us, azB c = true := fun c hc => abc_az c (p.mem_iff.mp (List.mem_append_left _ (pu.mem_iff.mp hc)))
  have nd : us.Nodup := pu.nodup_iff.mpr ((List.nodup_append.mp (p.nodup_iff.mpr abc_nd)).1)
  refine ⟨?_, by rw [el]; exact h4, fun c hc => ?_⟩
  · unfold letB azs
    rw [el, e, rising_of us hs nd, List.all_eq_true.mpr az, decide_eq_true h1, decide_eq_true h4]
    rfl
  · rw [e] at hc
    have z := az c hc
    unfold azB at z
    simp at z
    omega
end Vf

set_option Elab.async false
set_option linter.all false
set_option maxRecDepth 100000
set_option maxHeartbeats 4000000
namespace Vf
open PySem PySem.Spec PyProof.Rows L2 L2.Vx Vs
/-! ### all words -/
abbrev sEvery : Stmt := top 61
/-- words over letters, of at most so many -/
def Over (a : Str) (k : Nat) (ws : List Str) : Prop := ∀ w ∈ ws, w.length ≤ k ∧ ∀ c ∈ cp w, c ∈ cp a
theorem Over.app {a : Str} {k : Nat} {xs ys : List Str} (h : Over a k xs) (g : Over a k ys) : Over a k (xs ++ ys) := fun w hw => (List.mem_append.mp hw).elim (h w) (g w)
theorem Over.up {a : Str} {k l : Nat} {xs : List Str} (h : Over a k xs) (e : k ≤ l) : Over a l xs := fun w hw => ⟨Nat.le_trans (h w hw).1 e, (h w hw).2⟩
theorem cp_app (u v : Str) : cp (u ++ v) = cp u ++ cp v := Array.toList_append ..
theorem ov0 {a : Str} : Over a 0 [""] := fun w hw => by
  obtain rfl : w = "" := List.mem_singleton.mp hw
  exact ⟨Nat.le_refl _, fun c h => nomatch h⟩
def spEvery : Sp := fun vs H Q _ => ∃ (a : Str) (n : Nat), vs = [.str a, nI n] ∧ 1 ≤ a.length ∧ a.length ≤ 4 ∧ n ≤ 12 ∧ a.length ^ n ≤ 4096 ∧ ∀ (r : Addr) (ws : List Str) H', Same H H' → H' r = some (.lst (ws.map V.str)) → Over a n ws → ws.length ≤ 53248 → ws ≠ [] → Q (.ref r) H'
abbrev nEvery : List Str := ["_law_signs_here", "_law_far_here", "_law_found", "_law_last", "_law_k", "_law_longer", "_law_word_here", "_law_sign"]
section
variable {P : Program} {w : World} {K : PySem.W.Frag} {mg : Str → Option Value} {base : Heap}
theorem scEvery : FnScope nEvery ["_law_signs_here", "_law_far_here"] (defScope sEvery) := ⟨rfl, rfl, rfl, by decide +kernel, rfl, by decide +kernel, by decide +kernel⟩
theorem ok_every {f : Addr} {fd : FuncData} (F : Fun K "_law_every" "_law_every" sEvery f fd) (T : TxtW mg) : FnOk P w K mg base CX0 1 f fd ["_law_signs_here", "_law_far_here"] spEvery := by
  refine F.ok scEvery (fun vs H Q E h => ?_) (fun cdv A outer s H vs Q E hr h => ?_)
  · obtain ⟨a, n, rfl, _⟩ := h
    rfl
  obtain ⟨a, n, rfl, ha1, ha, hn, hpw, q⟩ := h
  refine ⟨_, pss_cons (ps_par (i := 2) (j := 3) (by rfl) scEvery.nd rfl rfl (by decide) rfl rfl (pa_cons (pe_lst (pa_cons pe_str pa_nil)) (pa_cons (pe_lst (pa_cons pe_str pa_nil)) pa_nil)) (by rfl))
    (pss_cons (ps_for PassesOwn.never rfl (pi_range1 rfl T.range (pa_cons (pv 1) pa_nil)) (pg_name (i := 4) scEvery.nd rfl (Or.inl rfl))
      (pss_cons (ps_set (i := 5) scEvery.nd rfl (Or.inl rfl) (pe_lst pa_nil))
      (pss_cons (ps_for PassesOwn.never rfl (pi_list (pv 3)) (pg_name (i := 6) scEvery.nd rfl (Or.inr rfl))
        (pss_one (ps_expr (pe_bm PySem.F.plainAttrs_list PySem.F.slot_list_extend PySem.F.type_list_extend mt_extend (pv 5) (pa_cons (pe_lc (own := [("_law_sign", 7)]) (g := gName 7) (tt := tYes) rfl scEvery.nd (pi_str (pv 0))
          (blkOk_by (N := nEvery) (sc := defScope sEvery) (by decide +kernel)) (fun _ _ _ _ _ => pg_name (i := 7) scEvery.nd rfl (Or.inl rfl)) (fun _ _ _ _ _ => pts_nil) (fun _ _ _ _ _ => by exact pe_op op_add_str (pv 6) (pv 7))) pa_nil)))))
      (pss_one (ps_par (i := 2) (j := 3) (by rfl) scEvery.nd rfl rfl (by decide) rfl rfl (pa_cons (pe_op op_cat (pv 2) (pv 5)) (pa_cons (pv 5) pa_nil)) (by rfl))))))
    (pss_one (ps_ret (pv 2)))), ?_⟩
  refine ⟨(by show 1 ≤ sizeLine; decide), fun p1 hp1 => ⟨(by show 1 ≤ sizeLine; decide), fun p2 hp2 => ⟨_, _, rfl, _, rfl, (n : Int), rfl, by omega, by omega, ?_⟩⟩⟩
  have s1 := same_new hp1 (.lst [V.str ""])
  have e1 : upd H p1 (.lst [V.str ""]) p1 = some (.lst [V.str ""]) := upd_same
  have s2 := same_new hp2 (.lst [V.str ""])
  refine for_it walk_range (fun i σ H' => ∃ (p q' : Addr) (fs ls : List Str) (v4 v5 v6 : Option V), σ = [some (.str a), some (nI n), some (.ref p), some (.ref q'), v4, v5, v6, none] ∧ H' p = some (.lst (fs.map V.str)) ∧ H' q' = some (.lst (ls.map V.str)) ∧ Over a i fs ∧ Over a i ls ∧ fs.length ≤ (i + 1) * 4096 ∧ ls.length ≤ a.length ^ i ∧ Same H H' ∧ fs ≠ [])
    ⟨p1, p2, [""], [""], none, none, none, rfl, s2 _ _ e1, upd_same, ov0, ov0, by decide, Nat.le_refl _, s1.trans s2, by simp⟩ (fun _ _ _ _ _ => trivial) ?_ ?_
  · rintro i v σ H1 H2 hi ⟨p, q', fs, ls, v4, v5, v6, rfl, f1, f2, o1, o2, c1, c2, sm, fne⟩ ⟨rfl, rfl⟩
    have hi' : i < 12 := by omega
    have hls : ls.length ≤ 4096 := Nat.le_trans c2 (Nat.le_trans (Nat.pow_le_pow_right ha1 (by omega)) hpw)
    have hle : a.length ^ (i + 1) ≤ 4096 := Nat.le_trans (Nat.pow_le_pow_right ha1 (by omega)) hpw
    refine ⟨Nat.zero_le _, fun g hg => ?_⟩
    have s3 := same_new hg (.lst [])
    refine ⟨_, rfl, q', rfl, ⟨_, SqL.of (s3 _ _ f2)⟩, ?_⟩
    refine for_it (walk_list (xs := ls.map V.str)) (fun j σ H' => ∃ (ws : List Str) (vk v6 : Option V), σ = [some (.str a), some (nI n), some (.ref p), some (.ref q'), vk, some (.ref g), v6, none] ∧ H' g = some (.lst (ws.map V.str)) ∧ Over a (i + 1) ws ∧ ws.length ≤ a.length * j ∧ Same H2 H')
      ⟨[], _, _, rfl, upd_same, (fun _ h => nomatch h), Nat.zero_le _, s3⟩ (fun _ _ _ _ ⟨_, _, _, _, _, _, _, z⟩ => SqL.of (z _ _ f2)) ?_ ?_
    · rintro j y σ H3 H4 hj ⟨ws, vk, v6', rfl, g1, g2, g3, g4⟩ ⟨rfl, hy⟩
      rw [List.getElem?_map] at hy
      obtain ⟨u, hu', rfl⟩ := Option.map_eq_some_iff.mp hy
      obtain ⟨u1, u2⟩ := o2 u (List.mem_of_getElem? hu')
      refine ⟨_, rfl, .inl ⟨rfl, _, SqL.of g1⟩, _, rfl, a, rfl, fun D hD => ?_⟩
      refine lc_it walk_str (fun k H' => H' D = some (.lst ((((cp a).take k).map fun c => u ++ (⟨#[c]⟩ : Str)).map V.str)) ∧ Same H4 H') ⟨upd_same, same_new hD _⟩ (fun _ _ _ _ => trivial) ?_ ?_
      · rintro k y H5 H6 hk ⟨hv, sm5⟩ ⟨rfl, c, hc, rfl⟩
        have hc' : (cp a)[k]? = some c := by rw [Array.getElem?_toList]; exact hc
        refine ⟨rfl, _, rfl, _, rfl, u, _, rfl, rfl, ?_, _, hv, ?_, ?_, fun b o e => ?_⟩
        · show u.length + 1 ≤ sizeLine
          exact Nat.le_trans (show u.length + 1 ≤ 13 by omega) (by decide)
        · rw [List.length_map, List.length_map]
          exact Nat.lt_of_le_of_lt (List.length_take_le' _ _) (by rw [← len_cp]; exact Nat.lt_of_le_of_lt ha (by decide))
        · rw [upd_same, List.take_add_one, hc', List.map_append, List.map_append]
          rfl
        · rw [upd_ne (ne_of_none e hD)]
          exact sm5 b o e
      · rintro H5 ⟨hv, sm5⟩
        have et : ((cp a).take a.cps.size) = cp a := List.take_of_length_le (by rw [Array.length_toList]; exact Nat.le_refl _)
        rw [et] at hv
        have hgD : H5 g = some (.lst (ws.map V.str)) := sm5 _ _ g1
        have hjl : j < ls.length := by rw [List.length_map] at hj; exact hj
        refine ⟨g, D, _, _, rfl, rfl, hgD, hv, ?_, ws ++ (cp a).map (fun c => u ++ (⟨#[c]⟩ : Str)), _, _, rfl, by rw [upd_same, List.map_append], g2.app fun w hw => ?_, ?_, fun b o e => ?_⟩
        · rw [List.length_map, List.length_map, List.length_map, ← len_cp]
          have e1 : a.length * j + a.length ≤ 4 * 4096 := by
            rw [← Nat.mul_succ]
            exact Nat.mul_le_mul ha (by omega)
          exact Nat.le_trans (show ws.length + a.length ≤ 4 * 4096 by omega) (by decide)
        · obtain ⟨c, hc, rfl⟩ := List.mem_map.mp hw
          refine ⟨?_, fun d hd => ?_⟩
          · rw [len_cp]
            show (cp (u ++ ⟨#[c]⟩)).length ≤ _
            rw [cp_app, List.length_append, ← len_cp]
            exact Nat.succ_le_succ u1
          · rw [cp_app] at hd
            rcases List.mem_append.mp hd with z | z
            · exact u2 d z
            · obtain rfl : d = c := List.mem_singleton.mp z
              exact hc
        · rw [List.length_append, List.length_map, ← len_cp, Nat.mul_succ]
          omega
        · rw [upd_ne (ne_of_none e hg)]
          exact sm5 _ _ (g4 b o e)
    · rintro σ H3 ⟨ws, vk, v6', rfl, g1, g2, g3, g4⟩
      rw [List.length_map] at g3
      have hws : ws.length ≤ a.length ^ (i + 1) := by
        rw [Nat.pow_succ, Nat.mul_comm]
        exact Nat.le_trans g3 (Nat.mul_le_mul_left _ c2)
      have f1' := g4 _ _ f1
      refine ⟨_, rfl, _, rfl, p, g, _, _, rfl, rfl, f1', g1, ?_, fun r hr' => ⟨_, rfl, _, _, rfl, r, g, fs ++ ws, ws, _, _, _, rfl, by rw [upd_same, List.map_append], same_new hr' _ _ _ g1, (o1.up (Nat.le_succ i)).app g2, g2, ?_, ?_, ?_, fun z => fne (List.append_eq_nil_iff.mp z).1⟩⟩
      · rw [List.length_map, List.length_map]
        have : sizeLine = 16777216 := by decide
        have : (i + 1) * 4096 ≤ 13 * 4096 := Nat.mul_le_mul_right _ (by omega)
        omega
      · rw [List.length_append]
        omega
      · omega
      · exact (sm.trans g4).trans (same_new hr' _)
  · rintro σ H1 ⟨p, q', fs, ls, v4, v5, v6, rfl, f1, f2, o1, o2, c1, c2, sm, fne⟩
    exact ⟨_, rfl, q p fs _ sm f1 o1 (Nat.le_trans c1 (by omega)) fne⟩
end
end Vf

set_option Elab.async false
set_option linter.all false
set_option maxRecDepth 100000
set_option maxHeartbeats 4000000
namespace Vf
open PySem PySem.Spec PyProof.Rows L2 L2.Vx Vs
open PySem.Froz (sing)
def spSigns : Sp := fun vs H Q _ => ∃ (d g : Addr) (m : Nat), vs = [.ref d, .int (m : Nat)] ∧ 0 < m ∧ m ≤ 4 ∧ DeckAt H d g ∧
  ∀ (x : Str) (H' : Hp), letB x = true → x.length ≤ m → (∀ c ∈ cp x, c < 128) → DeckAt H' d g → Keeps d g H H' → Q (.str x) H'
theorem DeckAt.other {H : Hp} {d g p : Addr} (h : DeckAt H d g) (n1 : p ≠ d) (n2 : p ≠ g) (o : HO) : DeckAt (upd H p o) d g := by
  obtain ⟨ns, m, n, h1, h2, h3, h4⟩ := h
  exact ⟨ns, m, n, by rw [upd_ne n1.symm]; exact h1, by rw [upd_ne n2.symm]; exact h2, h3, h4⟩
def Off (d g : Addr) (H : Hp) : Addr → Prop := fun a => (a ≠ d ∧ a ≠ g) ∧ H a = none
theorem Keeps.free {d g t : Addr} {H H' : Hp} (k : Keeps d g H H') (n1 : t ≠ d) (n2 : t ≠ g) (e : H' t = none) : H t = none := by
  cases z : H t with
  | none => rfl
  | some u =>
    have y := k t u n1 n2 z
    rw [e] at y
    exact nomatch y
abbrev sg (c : Nat) : V := V.str (sing c)
theorem erase_sg : ∀ (l : List Nat) (j : Nat), (l.map sg).eraseIdx j = (l.eraseIdx j).map sg
  | [], _ => rfl
  | _ :: _, 0 => rfl
  | c :: r, j + 1 => by rw [List.map_cons, List.eraseIdx_cons_succ, List.eraseIdx_cons_succ, List.map_cons, erase_sg r j]
theorem sum_sing : ∀ us : List Nat, ((us.map sing).map (·.length)).sum = us.length
  | [] => rfl
  | c :: r => by
    rw [List.map_cons, List.map_cons, List.sum_cons, sum_sing r, List.length_cons]
    show 1 + r.length = _
    omega
structure TxtS (mg : Str → Option Value) (fW : Addr) : Prop extends TxtD mg fW where
  range : mg "range" = none
  sorted : mg "sorted" = none
  set : mg "set" = none
section
variable {P : Program} {w : World} {K : PySem.W.Frag} {mg : Str → Option Value} {base : Heap}
theorem scSigns : FnScope ["_law_deck_here", "_law_limit", "_law_left", "_law_found", "_law_k"] ["_law_deck_here", "_law_limit"] (defScope sSigns) := ⟨rfl, rfl, rfl, by decide +kernel, rfl, by decide +kernel, by decide +kernel⟩
theorem ok_signs {f fW : Addr} {fd fdW : FuncData} (F : Fun K "_law_signs" "_law_signs" sSigns f fd)
    (GW : FnOk P w K mg base CX0 1 fW fdW ["_law_deck_here", "_law_below"] spDraw) (bW : Binds K fdW ["_law_deck_here", "_law_below"] []) (kW : PySem.W.keepIn K (.ref fW) = true) (T : TxtS mg fW) :
    FnOk P w K mg base CX0 2 f fd ["_law_deck_here", "_law_limit"] spSigns := by
  refine F.ok scSigns (fun vs H Q E h => ?_) (fun cdv A outer s H vs Q E hr h => ?_)
  · obtain ⟨d, g, m, rfl, _⟩ := h
    rfl
  obtain ⟨d, g, m, rfl, hm0, hm4, hD, q⟩ := h
  refine ⟨_, pss_cons (ps_par (i := 2) (j := 3) rfl scSigns.nd rfl rfl (by decide) rfl rfl (pa_cons (pe_callTy (cr_listText rfl) (by rfl) T.list (by decide +kernel) (pa_cons pe_str pa_nil)) (pa_cons (pe_lst pa_nil) pa_nil)) (by rfl))
    (pss_cons (ps_for PassesOwn.never rfl (pi_range1 rfl T.range (pa_cons (pe_op op_add pe_int (pe_call GW hr rfl T.draw kW bW .nil pass0 (pa_cons (pv 0) (pa_cons (pv 1) pa_nil)))) pa_nil)) (pg_name (i := 4) scSigns.nd rfl (Or.inl rfl))
      (pss_one (ps_expr (pe_bm PySem.F.plainAttrs_list PySem.F.slot_list_append PySem.F.type_list_append mt_append (pv 3) (pa_cons
        (pe_bm PySem.F.plainAttrs_list PySem.F.slot_list_pop PySem.F.type_list_pop mt_popAt (pv 2) (pa_cons (pe_call GW hr rfl T.draw kW bW .nil pass0 (pa_cons (pv 0) (pa_cons (pe_callB call_len_seq (by rfl) T.len PySem.boot_len (pa_cons (pv 2) pa_nil)) pa_nil))) pa_nil)) pa_nil)))))
    (pss_one (ps_ret (pe_join pe_str (pe_callB cr_sortedS (by rfl) T.sorted (by decide +kernel) (pa_cons (pv 3) pa_nil)))))), ?_⟩
  refine ⟨abc, rfl, (by decide +kernel), fun l hl => ⟨Nat.zero_le _, fun t ht => ?_⟩⟩
  have s1 := same_new hl (.lst ((parts abc).map V.str))
  have e1 : upd H l (.lst ((parts abc).map V.str)) l = some (.lst ((cp abc).map sg)) := by rw [upd_same, List.map_map]; rfl
  generalize upd H l (.lst ((parts abc).map V.str)) = H1 at s1 e1 ht ⊢
  have s2 := same_new ht (.lst [])
  have e2 : upd H1 t (.lst []) t = some (.lst []) := upd_same
  have e1' := s2 _ _ e1
  have hlt : l ≠ t := ne_of_none e1 ht
  have hln : l ≠ d ∧ l ≠ g := hD.dn hl
  have htn : t ≠ d ∧ t ≠ g := hD.dn (s1.free ht)
  have htH : H t = none := s1.free ht
  have sm := s1.trans s2
  generalize upd H1 t (.lst []) = H2 at s2 e2 e1' sm ⊢
  clear s1 s2 e1
  have hD2 := hD.same sm
  refine ⟨_, _, rfl, _, rfl, _, rfl, d, g, (m : Nat), rfl, by omega, by omega, hD2, fun r0 H3 hr0 hr4 hD3 k3 => ⟨_, _, rfl, rfl, _, rfl, by omega, by omega, ?_⟩⟩
  refine for_range (lo := 0) (n := (1 + r0).toNat) (fun i σ H' => ∃ (left found : List Nat) (v : Option V), σ = [some (.ref d), some (.int (m : Nat)), some (.ref l), some (.ref t), v] ∧ H' l = some (.lst (left.map sg)) ∧ H' t = some (.lst (found.map sg)) ∧
    (found ++ left).Perm (cp abc) ∧ found.length = i ∧ DeckAt H' d g ∧ Keeps d g H H') ?_ ?_ ?_
  · exact ⟨cp abc, [], none, rfl, k3 _ _ hln.1 hln.2 e1', k3 _ _ htn.1 htn.2 e2, List.Perm.refl _, rfl, hD3, (Keeps.of sm).trans k3⟩
  · rintro i σ H4 hi ⟨left, found, v, rfl, f1, f2, pm, fl, hD4, k4⟩
    have ll : left.length = 26 - i := by
      have z := pm.length_eq
      rw [List.length_append, abc_len, fl] at z
      omega
    have hlm : (left.map sg).length = left.length := List.length_map _
    refine ⟨_, rfl, .inl ⟨rfl, _, SqL.of f2⟩, _, rfl, .inl ⟨rfl, _, SqL.of f1⟩, _, rfl, _, rfl, l, _, rfl, .inl (SqL.of f1), d, g, _, rfl, by rw [hlm]; omega, by rw [hlm]; omega, hD4, fun r H5 hr0' hrb hD5 k5 => ?_⟩
    rw [hlm] at hrb
    have f1' := k5 _ _ hln.1 hln.2 f1
    have f2' := k5 _ _ htn.1 htn.2 f2
    have hrl : r.toNat < left.length := by omega
    have gx : (left.map sg)[r.toNat]? = some (sg left[r.toNat]) := by rw [List.getElem?_map, List.getElem?_eq_getElem hrl]; rfl
    refine ⟨l, _, r, r.toNat, _, rfl, rfl, f1', by omega, by omega, ?_, gx, ?_⟩
    · rw [hlm]
      exact seqIndex_of hr0' hrb
    have f2'' : upd H5 l (.lst ((left.map sg).eraseIdx r.toNat)) t = some (.lst (found.map sg)) := by rw [upd_ne hlt.symm]; exact f2'
    refine ⟨t, _, _, rfl, rfl, f2'', ?_, left.eraseIdx r.toNat, found ++ [left[r.toNat]], _, rfl, ?_, ?_, ?_, ?_, ?_, ?_⟩
    · rw [List.length_map, fl]
      exact Nat.lt_of_lt_of_le (show i < 5 by omega) (by decide)
    · rw [upd_ne hlt, upd_same, erase_sg]
    · rw [upd_same, List.map_append]; rfl
    · rw [List.append_assoc]
      refine (List.Perm.append_left _ ?_).trans pm
      exact erase_perm _ _ _ (List.getElem?_eq_getElem hrl)
    · rw [List.length_append, fl]; rfl
    · exact (hD5.other hln.1 hln.2 _).other htn.1 htn.2 _
    · intro b o n1 n2 e
      rw [upd_ne (ne_of_none e htH), upd_ne (ne_of_none e hl)]
      exact k5 b o n1 n2 (k4 b o n1 n2 e)
  · rintro σ H4 ⟨left, found, v, rfl, f1, f2, pm, fl, hD4, k4⟩
    have f2' : H4 t = some (.lst ((found.map sing).map V.str)) := by rw [f2, List.map_map]; rfl
    refine ⟨⟨_, rfl⟩, _, rfl, t, _, rfl, SqL.of f2', ?_, fun ys p hp hs np => ?_⟩
    · rw [List.length_map, fl]; omega
    have len : (Txt.join "" ys).length ≤ m := by
      obtain ⟨us, e, pu⟩ := sings_perm hp
      have j : Txt.join "" (us.map sing) = Vm.mkS us := Vm.join_signs us
      rw [e, j]
      show us.toArray.size ≤ m
      rw [List.size_toArray, pu.length_eq, fl]
      omega
    have big := join_letters pm (by rw [fl]; omega) (by rw [fl]; omega) hp hs
    refine ⟨_, p, ys, rfl, rfl, .inl (SqL.of upd_same), ?_, q _ _ big.1 len big.2.2 (hD4.same (same_new np _)) (k4.trans (.of (same_new np _)))⟩
    obtain ⟨us, rfl, pu⟩ := sings_perm hp
    rw [sum_sing, List.length_map, pu.length_eq, fl]
    show (1 + r0).toNat + (1 + r0).toNat * 0 ≤ _
    omega
end
end Vf

set_option Elab.async false
set_option linter.all false
set_option maxRecDepth 100000
set_option maxHeartbeats 4000000
namespace Vf
open PySem PySem.Spec PyProof.Rows L2 L2.Vx Vs Vm Vd Mk
/-! ### the law's words -/
abbrev sWd : Stmt := top 63
abbrev sSt : Stmt := top 64
abbrev nWd : List Str := ["_law_deck_here", "_law_signs_here", "_law_far_here", "_law_k"]
abbrev nSt : List Str := ["_law_bit", "_law_word_here", "_law_k"]
def spPickS : Sp := fun vs H Q _ => ∃ (d g : Addr) (z : Str), vs = [.ref d, .str z] ∧ 0 < z.length ∧ z.length < 1000000 ∧ DeckAt H d g ∧ ∀ (x : Nat) (H' : Hp), x ∈ cp z → DeckAt H' d g → Keeps d g H H' → Q (.str (mkS [x])) H'
def spWd : Sp := fun vs H Q _ => ∃ (d g : Addr) (a : Str) (n : Nat), vs = [.ref d, .str a, nI n] ∧ 1 ≤ a.length ∧ a.length ≤ 4 ∧ n ≤ 2000 ∧ DeckAt H d g ∧ ∀ (x : Str) (H' : Hp), x.length ≤ n → (∀ c ∈ cp x, c ∈ cp a) → DeckAt H' d g → Keeps d g H H' → Q (.str x) H'
def spSt : Sp := fun vs H Q _ => ∃ (p t : Str), vs = [.str p, .str t] ∧ p.length ≤ 100000 ∧ t.length ≤ 100000 ∧ ∀ H', Same H H' → Q (nI (stands (cp p) (cp t))) H'
structure TxtWd (mg : Str → Option Value) (fW fP : Addr) : Prop extends TxtD mg fW where
  pick : mg "_law_pick" = some (.ref fP)
  range : mg "range" = none
theorem cut_ov {z : List Nat} {i k : Nat} (hi : i ≤ z.length) : cutS (mkS z) (some (i : Int)) (some ((i : Int) + (k : Nat))) = mkS ((z.drop i).take k) := by
  have hl : (mkS z).length = z.length := mkS_length z
  unfold cutS
  rw [hl, mkS_cps]
  have e1 : HT.sIx z.length 0 (some (i : Int)) = min i z.length := HT.sIx_nat _ _ i
  have e2 : HT.sIx z.length z.length (some ((i : Int) + (k : Nat))) = min (i + k) z.length := HT.sIx_nat _ _ (i + k)
  rw [e1, e2, Nat.min_eq_left hi]
  show mkS ((z.drop i).take (min (i + k) z.length - i)) = _
  refine congrArg mkS ?_
  rcases Nat.le_total (i + k) z.length with h | h
  · rw [Nat.min_eq_left h, Nat.add_sub_cancel_left]
  · rw [Nat.min_eq_right h, List.take_of_length_le (by rw [List.length_drop]; exact Nat.le_refl _), List.take_of_length_le (by rw [List.length_drop]; omega)]
section
variable {P : Program} {w : World} {K : PySem.W.Frag} {mg : Str → Option Value} {base : Heap}
theorem scWd : FnScope nWd ["_law_deck_here", "_law_signs_here", "_law_far_here"] (defScope sWd) := ⟨rfl, rfl, rfl, by decide +kernel, rfl, by decide +kernel, by decide +kernel⟩
theorem scSt : FnScope nSt ["_law_bit", "_law_word_here"] (defScope sSt) := ⟨rfl, rfl, rfl, by decide +kernel, rfl, by decide +kernel, by decide +kernel⟩
theorem ok_pickS {f : Addr} {fd : FuncData} {fW : Addr} {fdW : FuncData} (F : Fun K "_law_pick" "_law_pick" sPick f fd) (FW : Fun K "_law_draw" "_law_draw" sDraw fW fdW) (bW : L2.Binds K fdW ["_law_deck_here", "_law_below"] []) (T : TxtD mg fW) : FnOk P w K mg base CX0 2 f fd ["_law_deck_here", "_law_some"] spPickS := by
  have GW : FnOk P w K mg base CX0 1 fW fdW ["_law_deck_here", "_law_below"] spDraw := ok_draw FW T
  refine F.ok scPick (fun vs H Q E h => ?_) (fun cdv A outer s H vs Q E hr h => ?_)
  · obtain ⟨d, g, z, rfl, _⟩ := h
    rfl
  obtain ⟨d, g, z, rfl, hpos, hlen, hD, k⟩ := h
  refine ⟨_, pss_one (ps_ret (pe_ix ix_str (pv 1) (pe_call GW hr rfl T.draw FW.kp bW .nil pass0 (pa_cons (pv 0) (pa_cons (pe_callB call_len_str (by rfl) T.len PySem.boot_len (pa_cons (pv 1) pa_nil)) pa_nil))) (fun _ _ => rfl))), ?_⟩
  have hz : z.length ≤ sizeLine := Nat.le_trans (Nat.le_of_lt hlen) (by decide)
  refine ⟨_, rfl, _, rfl, _, rfl, _, rfl, hz, d, g, _, rfl, by omega, by omega, hD, fun r H' h0 h1 hD' kp => ?_⟩
  have hl : z.cps.toList.length = z.length := by rw [Array.length_toList]; rfl
  have hr : r.toNat < z.cps.toList.length := by omega
  have er : r = ((r.toNat : Nat) : Int) := by omega
  have hx : atI z.cps.toList r = some z.cps.toList[r.toNat] := by
    rw [show atI z.cps.toList r = atI z.cps.toList ((r.toNat : Nat) : Int) from congrArg _ er]
    exact atI_nat (List.getElem?_eq_getElem hr)
  exact ⟨z, r, _, rfl, rfl, hz, hx, k _ H' (List.getElem_mem hr) hD' kp⟩
theorem ok_wd {f fW fP : Addr} {fd fdW fdP : FuncData} (F : Fun K "_law_word" "_law_word" sWd f fd) (T : TxtWd mg fW fP)
    (GW : FnOk P w K mg base CX0 1 fW fdW ["_law_deck_here", "_law_below"] spDraw) (bW : L2.Binds K fdW ["_law_deck_here", "_law_below"] []) (kW : PySem.W.keepIn K (.ref fW) = true)
    (GP : FnOk P w K mg base CX0 2 fP fdP ["_law_deck_here", "_law_some"] spPickS) (bP : L2.Binds K fdP ["_law_deck_here", "_law_some"] []) (kP : PySem.W.keepIn K (.ref fP) = true) :
    FnOk P w K mg base CX0 3 f fd ["_law_deck_here", "_law_signs_here", "_law_far_here"] spWd := by
  refine F.ok scWd (fun vs H Q E h => ?_) (fun cdv A outer s H vs Q E hr h => ?_)
  · obtain ⟨d, g, a, n, rfl, _⟩ := h
    rfl
  obtain ⟨d, g, a, n, rfl, a1, a4, hn, hD, q⟩ := h
  have hr1 : Room 1 _ := hr.mono (by decide)
  refine ⟨_, pss_one (ps_ret (pe_join pe_str (pe_lc (own := [("_law_k", 3)]) (g := gName 3) (tt := tYes) rfl scWd.nd
        (pi_range1 rfl T.range (pa_cons (pe_call GW hr1 rfl T.draw kW bW .nil pass0 (pa_cons (pv 0) (pa_cons (pe_op op_add (pv 2) pe_int) pa_nil))) pa_nil))
        (blkOk_by (N := nWd) (sc := defScope sWd) (by decide +kernel)) (fun _ _ _ _ _ => pg_name (i := 3) scWd.nd rfl (Or.inl rfl)) (fun _ _ _ _ _ => pts_nil)
        (fun _ _ _ _ _ => by exact pe_call GP hr rfl T.pick kP bP .nil pass0 (pa_cons (pv 0) (pa_cons (pv 1) pa_nil)))))), ?_⟩
  refine ⟨⟨_, rfl⟩, _, rfl, _, rfl, _, _, rfl, rfl, d, g, _, rfl, by omega, by omega, hD, fun r H1 r0 r1 hD1 k1 => ⟨r, rfl, by omega, by omega, fun D hD2 => ?_⟩⟩
  have nD := hD1.dn hD2
  refine lc_it walk_range (fun i H' => ∃ us : List Nat, H' D = some (.lst (us.map fun c => V.str (mkS [c]))) ∧ us.length = i ∧ (∀ c ∈ us, c ∈ cp a) ∧ DeckAt H' d g ∧ Keeps d g H H') ⟨[], upd_same, rfl, (fun _ h => nomatch h), hD1.same (same_new hD2 _), k1.trans (.of (same_new hD2 _))⟩ (fun _ _ _ _ => trivial) ?_ ?_
  · rintro i x H3 H4 hi ⟨us, m1, m2, m3, hD4, k4⟩ ⟨rfl, rfl⟩
    refine ⟨rfl, _, rfl, _, rfl, d, g, a, rfl, by omega, by omega, hD4, fun x H5 hx hD5 k5 => ?_⟩
    refine ⟨_, k5 _ _ nD.1 nD.2 m1, by rw [List.length_map, m2, sizeLine_eq]; omega, us ++ [x], ?_, by rw [List.length_append, m2]; rfl, ?_, hD5.other nD.1 nD.2 _, fun b o n1 n2 e => ?_⟩
    · rw [upd_same, List.map_append]
      rfl
    · intro y hy
      rcases List.mem_append.mp hy with hy | hy
      · exact m3 y hy
      · rw [List.mem_singleton.mp hy]; exact hx
    · rw [upd_ne (ne_of_none (k1 b o n1 n2 e) hD2)]
      exact k5 b o n1 n2 (k4 b o n1 n2 e)
  · rintro H3 ⟨us, m1, m2, m3, hD4, k4⟩
    have m1' : H3 D = some (.lst ((us.map fun c => mkS [c]).map V.str)) := by rw [m1, List.map_map]; rfl
    have ul : us.length ≤ n := by omega
    refine ⟨_, D, _, rfl, rfl, .inl (SqL.of m1'), ?_, ?_⟩
    · rw [sum_signs, List.length_map]
      show us.length + us.length * 0 ≤ _
      omega
    rw [join_signs]
    exact q (mkS us) H3 (by rw [mkS_length]; exact ul) m3 hD4 k4
theorem ok_st {f : Addr} {fd : FuncData} (F : Fun K "_law_stands" "_law_stands" sSt f fd) (T : TxtW mg) : FnOk P w K mg base CX0 1 f fd ["_law_bit", "_law_word_here"] spSt := by
  refine F.ok scSt (fun vs H Q E h => ?_) (fun cdv A outer s H vs Q E hr h => ?_)
  · obtain ⟨p, t, rfl, _⟩ := h
    rfl
  obtain ⟨p, t, rfl, hp, ht, q⟩ := h
  refine ⟨_, pss_one (ps_ret (pe_callB call_len_seq (by rfl) T.len PySem.boot_len (pa_cons (pe_lc (own := [("_law_k", 2)]) (g := gName 2) (tt := _) rfl scSt.nd
        (pi_range1 rfl T.range (pa_cons (pe_callB call_len_str (by rfl) T.len PySem.boot_len (pa_cons (pv 1) pa_nil)) pa_nil))
        (blkOk_by (N := nSt) (sc := defScope sSt) (by decide +kernel)) (fun _ _ _ _ _ => pg_name (i := 2) scSt.nd rfl (Or.inl rfl))
        (fun _ _ _ _ _ => by exact pts_one (pt_cmpR op_eq (pe_slice sl_str (pv 1) (po_some (pv 2)) (po_some (pe_op op_add (pv 2) (pe_callB call_len_str (by rfl) T.len PySem.boot_len (pa_cons (pv 0) pa_nil))))) (pv 0) (nomark _)))
        (fun _ _ _ _ _ => by exact pv 2)) pa_nil))), ?_⟩
  have lp : (cp p).length = p.length := by rw [Array.length_toList]; rfl
  have lt' : (cp t).length = t.length := by rw [Array.length_toList]; rfl
  have hp16 : p.length ≤ sizeLine := Nat.le_trans hp (by decide)
  have ht16 : t.length ≤ sizeLine := Nat.le_trans ht (by decide)
  refine ⟨_, rfl, t, rfl, ht16, (t.length : Int), rfl, by omega, by omega, fun D hD => ?_⟩
  have eN : (t.length : Int).toNat = t.length := by omega
  refine lc_range (lo := 0) (n := (t.length : Int).toNat) (fun i H' => H' D = some (.lst (((List.range i).filter fun k => decide (((cp t).drop k).take (cp p).length = cp p)).map nI)) ∧ Same H H') ⟨upd_same, same_new hD _⟩ ?_ ?_
  · rintro i H5 hi ⟨m1, m2⟩
    rw [eN] at hi
    rw [show (0 : Int) + (i : Nat) = (i : Nat) from Int.zero_add _]
    have hc : cutS t (some (i : Int)) (some ((i : Int) + (p.length : Nat))) = mkS (((cp t).drop i).take p.length) := by
      rw [show t = mkS (cp t) from eta_S t]
      exact cut_ov (by rw [lt']; omega)
    refine ⟨rfl, _, rfl, _, rfl, _, rfl, _, rfl, _, rfl, p, rfl, hp16, _, _, rfl, rfl, _, rfl, t, rfl, ht16, _, rfl, rfl, _, rfl, ?_⟩
    rw [hc]
    have key : (V.str (mkS (((cp t).drop i).take p.length)) = V.str p) ↔ ((cp t).drop i).take (cp p).length = cp p := by
      rw [lp]
      constructor
      · intro e
        have z := congrArg cp (V.str.inj e)
        exact z
      · intro e
        rw [e, ← eta_S p]
    refine ite2 (fun c => ⟨_, rfl, _, m1, ?_, ?_, fun b u e => ?_⟩) (fun c => ⟨?_, m2⟩)
    · rw [List.length_map]
      refine Nat.lt_of_le_of_lt (List.length_filter_le _ _) ?_
      rw [List.length_range, sizeLine_eq]
      omega
    · have c' := key.mp (of_decide_eq_true c)
      rw [upd_same, List.range_succ, List.filter_append, List.map_append]
      rw [show ([i].filter fun k => decide (((cp t).drop k).take (cp p).length = cp p)) = [i] by rw [List.filter_cons]; rw [if_pos (decide_eq_true c')]; rfl]
      rfl
    · rw [upd_ne (ne_of_none e hD)]
      exact m2 b u e
    · have c' : ¬ ((cp t).drop i).take (cp p).length = cp p := fun z => c (decide_eq_true (key.mpr z))
      rw [m1, List.range_succ, List.filter_append]
      rw [show ([i].filter fun k => decide (((cp t).drop k).take (cp p).length = cp p)) = [] by rw [List.filter_cons]; rw [if_neg fun z => c' (of_decide_eq_true z)]; rfl]
      rw [List.append_nil]
  rintro H5 ⟨m1, m2⟩
  rw [eN] at m1
  refine ⟨D, _, rfl, .inl (SqL.of m1), ?_⟩
  rw [List.length_map, ← lt']
  exact q H5 m2
end
end Vf

set_option Elab.async false
set_option linter.all false
set_option maxRecDepth 100000
set_option maxHeartbeats 4000000
namespace Vf
open PySem PySem.Spec PyProof.Rows L2 L2.Vx Vs Vm Vd Mk
/-! ### plans: what is to be made -/
abbrev sDu : Stmt := top 65
inductive GPlan
  | fin (tvs : List V) (ys : List (Option Str))
  | hav (tv : V) (yt : Option Str) (n : Nat)
  | beg (tv : V) (yt : Option Str)
  | ends (tv : V) (yt : Option Str)
  | len (per : Nat) (es : List Nat)
def wO (y : Option Str) : List Nat := (y.map cp).getD []
/-- a plan as the law bears it -/
def PlanAt (K : PySem.W.Frag) (H : Hp) (p : Addr) : GPlan → Prop
  | .fin tvs ys => ∃ q, H p = some (.tup [.str "finite", .ref q]) ∧ H q = some (.tup tvs) ∧ StrsOr K H tvs ys
  | .hav tv yt n => H p = some (.tup [.str "having", tv, nI n]) ∧ StrOr K H tv yt
  | .beg tv yt => H p = some (.tup [.str "beginning", tv]) ∧ StrOr K H tv yt
  | .ends tv yt => H p = some (.tup [.str "ending", tv]) ∧ StrOr K H tv yt
  | .len per es => ∃ q, H p = some (.tup [.str "lengths", nI per, .ref q]) ∧ H q = some (.tup (es.map nI))
theorem strsOr_same {K : PySem.W.Frag} {H H' : Hp} {xs : List V} {ys : List (Option Str)} (h : StrsOr K H xs ys) (s : Same H H') : StrsOr K H' xs ys := ⟨h.1, fun i x y e1 e2 => strOr_same (h.2 i x y e1 e2) s⟩
theorem PlanAt.same {K : PySem.W.Frag} {H H' : Hp} {p : Addr} {g : GPlan} (h : PlanAt K H p g) (s : Same H H') : PlanAt K H' p g := by
  cases g with
  | fin tvs ys =>
    obtain ⟨q, h1, h2, h3⟩ := h
    exact ⟨q, s _ _ h1, s _ _ h2, strsOr_same h3 s⟩
  | hav tv yt n => exact ⟨s _ _ h.1, strOr_same h.2 s⟩
  | beg tv yt => exact ⟨s _ _ h.1, strOr_same h.2 s⟩
  | ends tv yt => exact ⟨s _ _ h.1, strOr_same h.2 s⟩
  | len per es =>
    obtain ⟨q, h1, h2⟩ := h
    exact ⟨q, s _ _ h1, s _ _ h2⟩
/-- whether a text is in what a plan makes -/
def due : GPlan → List Nat → Prop
  | .fin _ ys, t => t ∈ wsOf ys
  | .hav _ yt n, t => n ≤ stands (wO yt) t
  | .beg _ yt, t => wO yt <+: t
  | .ends _ yt, t => wO yt <:+ t
  | .len per es, t => t.length % per ∈ es
instance (g : GPlan) (t : List Nat) : Decidable (due g t) := by
  cases g <;> unfold due <;> infer_instance
/-- a plan of texts alone -/
def TxtPl : GPlan → Prop
  | .fin tvs ys => ∃ ts : List Str, tvs = ts.map V.str ∧ ys = ts.map some
  | .hav tv yt n => ∃ b : Str, tv = .str b ∧ yt = some b ∧ b.length ≤ 1000
  | .beg tv yt => ∃ b : Str, tv = .str b ∧ yt = some b ∧ b.length ≤ 1000
  | .ends tv yt => ∃ b : Str, tv = .str b ∧ yt = some b ∧ b.length ≤ 1000
  | .len per es => 0 < per
def spDu (K : PySem.W.Frag) : Sp := fun vs H Q _ => ∃ (p : Addr) (g : GPlan) (x : Str), vs = [.ref p, .str x] ∧ PlanAt K H p g ∧ TxtPl g ∧ x.length ≤ 100000 ∧ ∀ H', Same H H' → Q (.bl (decide (due g (cp x)))) H'
theorem starts_with (x y : Str) : Txt.startswith x y = decide (cp y <+: cp x) := by
  have lx : x.length = (cp x).length := by rw [Array.length_toList]; rfl
  have ly : y.length = (cp y).length := by rw [Array.length_toList]; rfl
  have ex : (x.cps.extract 0 (0 + y.length)).toList = ((cp x).drop 0).take y.length := by
    rw [Array.toList_extract, List.extract_eq_drop_take]
    congr 1
    omega
  unfold Txt.startswith
  rw [Bool.eq_iff_iff, Bool.and_eq_true, decide_eq_true_iff, decide_eq_true_iff, List.prefix_iff_eq_take]
  constructor
  · rintro ⟨h1, h2⟩
    have e := congrArg Array.toList (eq_of_beq h2)
    rw [ex] at e
    rw [← ly]
    exact e.symm
  · intro h
    have hl := congrArg List.length h
    rw [List.length_take] at hl
    refine ⟨by omega, ?_⟩
    show (x.cps.extract 0 (0 + y.length) == y.cps) = true
    refine beq_iff_eq.mpr (Array.toList_inj.mp ?_)
    rw [ex, ly]
    exact h.symm
theorem tag_ne {a b : Str} (h : (a == b) = false) : decide (V.str a = V.str b) = false := decide_eq_false fun z => by
  rw [V.str.inj z, beq_self_eq_true] at h
  cases h
theorem cp_inj {x y : Str} (h : cp x = cp y) : x = y := by
  rw [eta_S x, eta_S y, h]
section
variable {P : Program} {w : World} {K : PySem.W.Frag} {mg : Str → Option Value} {base : Heap}
theorem scDu : FnScope ["_law_plan_here", "_law_word_here"] ["_law_plan_here", "_law_word_here"] (defScope sDu) := ⟨rfl, rfl, rfl, by decide +kernel, rfl, by decide +kernel, by decide +kernel⟩
theorem ok_du {f fS : Addr} {fd fdS : FuncData} (F : Fun K "_law_is_due" "_law_is_due" sDu f fd) (T : TxtW mg)
    (GS : FnOk P w K mg base CX0 1 fS fdS ["_law_bit", "_law_word_here"] spSt) (bS : L2.Binds K fdS ["_law_bit", "_law_word_here"] []) (kS : PySem.W.keepIn K (.ref fS) = true) (mS : mg "_law_stands" = some (.ref fS)) :
    FnOk P w K mg base CX0 2 f fd ["_law_plan_here", "_law_word_here"] (spDu K) := by
  refine F.ok scDu (fun vs H Q E h => ?_) (fun cdv A outer s H vs Q E hr h => ?_)
  · obtain ⟨p, g, x, rfl, _⟩ := h
    rfl
  obtain ⟨p, g, x, rfl, hp, hg, hx, q⟩ := h
  have hr1 : Room 1 _ := hr.mono (by decide)
  refine ⟨_, (pss_cons (ps_if (pt_cmpR op_eq (pe_ix ix_tup (pv 0) pe_int (fun _ _ => rfl)) pe_str (nomark _)) (pss_one (ps_ret (pe_cmpR op_in_seq (pv 1) (pe_ix ix_tup (pv 0) pe_int (fun _ _ => rfl)) (by rfl)))) pss_nil)
    (pss_cons (ps_if (pt_cmpR op_eq (pe_ix ix_tup (pv 0) pe_int (fun _ _ => rfl)) pe_str (nomark _)) (pss_one (ps_ret (pe_cmpR op_ge (pe_call GS hr1 rfl mS kS bS .nil pass0 (pa_cons (pe_ix ix_tup (pv 0) pe_int (fun _ _ => rfl)) (pa_cons (pv 1) pa_nil))) (pe_ix ix_tup (pv 0) pe_int (fun _ _ => rfl)) (nomark _)))) pss_nil)
    (pss_cons (ps_if (pt_cmpR op_eq (pe_ix ix_tup (pv 0) pe_int (fun _ _ => rfl)) pe_str (nomark _)) (pss_one (ps_ret (pe_bm PySem.F.plainAttrs_str PySem.F.slot_str_startswith PySem.F.type_str_startswith mt_startswith (pv 1) (pa_cons (pe_ix ix_tup (pv 0) pe_int (fun _ _ => rfl)) pa_nil)))) pss_nil)
    (pss_one (ps_ret (pe_ifExp (pt_cmpR op_eq (pe_ix ix_tup (pv 0) pe_int (fun _ _ => rfl)) pe_str (nomark _)) (pe_bm PySem.F.plainAttrs_str PySem.F.slot_str_endswith PySem.F.type_str_endswith mt_endswith (pv 1) (pa_cons (pe_ix ix_tup (pv 0) pe_int (fun _ _ => rfl)) pa_nil)) (pe_cmpR op_in_seq (pe_op op_mod (pe_callB call_len_str (by rfl) T.len PySem.boot_len (pa_cons (pv 1) pa_nil)) (pe_ix ix_tup (pv 0) pe_int (fun _ _ => rfl))) (pe_ix ix_tup (pv 0) pe_int (fun _ _ => rfl)) (by rfl)))))))), ?_⟩
  have a2_0 : ∀ (x y : V), atI [x, y] 0 = some x := fun x y => atI_nat (j := 0) rfl
  have a2_1 : ∀ (x y : V), atI [x, y] 1 = some y := fun x y => atI_nat (j := 1) rfl
  have a3_0 : ∀ (x y z : V), atI [x, y, z] 0 = some x := fun x y z => atI_nat (j := 0) rfl
  have a3_1 : ∀ (x y z : V), atI [x, y, z] 1 = some y := fun x y z => atI_nat (j := 1) rfl
  have a3_2 : ∀ (x y z : V), atI [x, y, z] 2 = some z := fun x y z => atI_nat (j := 2) rfl
  cases g with
  | fin tvs ys =>
    obtain ⟨t, h1, h2, h3⟩ := hp
    obtain ⟨ts, rfl, rfl⟩ := hg
    refine ⟨_, rfl, p, _, _, _, rfl, rfl, SqT.of h1, a2_0 _ _, rfl, _, rfl, if_tr (decide_eq_true rfl) ?_⟩
    refine ⟨_, rfl, _, rfl, p, _, _, _, rfl, rfl, SqT.of h1, a2_1 _ _, t, _, rfl, .inr (SqT.of h2), rfl, flats_str ts, ?_⟩
    rw [if_neg (by decide), inv_str]
    have z := q H (Same.refl H)
    have e : decide (x ∈ ts) = decide (due (.fin (ts.map V.str) (ts.map some)) (cp x)) := by
      rw [decide_eq_decide]
      show _ ↔ cp x ∈ wsOf (ts.map some)
      unfold wsOf
      rw [List.map_map, List.mem_map]
      exact ⟨fun h => ⟨x, h, rfl⟩, fun ⟨y, hy, e⟩ => by rw [← cp_inj (show cp y = cp x from e)]; exact hy⟩
    rw [e]
    exact z
  | hav tv yt n =>
    obtain ⟨h1, h2⟩ := hp
    obtain ⟨b, rfl, rfl, hb⟩ := hg
    refine ⟨_, rfl, p, _, _, _, rfl, rfl, SqT.of h1, a3_0 _ _ _, rfl, _, rfl, if_fl (tag_ne (by decide +kernel)) ?_⟩
    refine ⟨_, rfl, p, _, _, _, rfl, rfl, SqT.of h1, a3_0 _ _ _, rfl, _, rfl, if_tr (decide_eq_true rfl) ?_⟩
    refine ⟨_, rfl, p, _, _, _, rfl, rfl, SqT.of h1, a3_1 _ _ _, _, rfl, b, x, rfl, by omega, hx, fun H1 s1 => ⟨_, rfl, p, _, _, _, rfl, rfl, SqT.of (s1 _ _ h1), a3_2 _ _ _, _, _, rfl, rfl, ?_⟩⟩
    have z := q H1 s1
    have e : decide ((n : Int) ≤ ((stands (cp b) (cp x) : Nat) : Int)) = decide (due (.hav (.str b) (some b) n) (cp x)) := by
      rw [decide_eq_decide]
      exact Int.ofNat_le
    rw [← e] at z
    exact z
  | beg tv yt =>
    obtain ⟨h1, h2⟩ := hp
    obtain ⟨b, rfl, rfl, hb⟩ := hg
    refine ⟨_, rfl, p, _, _, _, rfl, rfl, SqT.of h1, a2_0 _ _, rfl, _, rfl, if_fl (tag_ne (by decide +kernel)) ?_⟩
    refine ⟨_, rfl, p, _, _, _, rfl, rfl, SqT.of h1, a2_0 _ _, rfl, _, rfl, if_fl (tag_ne (by decide +kernel)) ?_⟩
    refine ⟨_, rfl, p, _, _, _, rfl, rfl, SqT.of h1, a2_0 _ _, rfl, _, rfl, if_tr (decide_eq_true rfl) ?_⟩
    refine ⟨_, rfl, rfl, _, rfl, p, _, _, _, rfl, rfl, SqT.of h1, a2_1 _ _, x, b, rfl, rfl, ?_⟩
    rw [starts_with]
    exact q H (Same.refl H)
  | ends tv yt =>
    obtain ⟨h1, h2⟩ := hp
    obtain ⟨b, rfl, rfl, hb⟩ := hg
    refine ⟨_, rfl, p, _, _, _, rfl, rfl, SqT.of h1, a2_0 _ _, rfl, _, rfl, if_fl (tag_ne (by decide +kernel)) ?_⟩
    refine ⟨_, rfl, p, _, _, _, rfl, rfl, SqT.of h1, a2_0 _ _, rfl, _, rfl, if_fl (tag_ne (by decide +kernel)) ?_⟩
    refine ⟨_, rfl, p, _, _, _, rfl, rfl, SqT.of h1, a2_0 _ _, rfl, _, rfl, if_fl (tag_ne (by decide +kernel)) ?_⟩
    refine ⟨_, rfl, p, _, _, _, rfl, rfl, SqT.of h1, a2_0 _ _, rfl, _, rfl, if_tr (decide_eq_true rfl) ?_⟩
    refine ⟨_, rfl, rfl, _, rfl, p, _, _, _, rfl, rfl, SqT.of h1, a2_1 _ _, x, b, rfl, rfl, ?_⟩
    rw [ends_with]
    exact q H (Same.refl H)
  | len per es =>
    obtain ⟨t, h1, h2⟩ := hp
    have hg : 0 < per := hg
    refine ⟨_, rfl, p, _, _, _, rfl, rfl, SqT.of h1, a3_0 _ _ _, rfl, _, rfl, if_fl (tag_ne (by decide +kernel)) ?_⟩
    refine ⟨_, rfl, p, _, _, _, rfl, rfl, SqT.of h1, a3_0 _ _ _, rfl, _, rfl, if_fl (tag_ne (by decide +kernel)) ?_⟩
    refine ⟨_, rfl, p, _, _, _, rfl, rfl, SqT.of h1, a3_0 _ _ _, rfl, _, rfl, if_fl (tag_ne (by decide +kernel)) ?_⟩
    refine ⟨_, rfl, p, _, _, _, rfl, rfl, SqT.of h1, a3_0 _ _ _, rfl, _, rfl, if_fl (tag_ne (by decide +kernel)) ?_⟩
    refine ⟨_, rfl, x, rfl, Nat.le_trans hx (by decide), _, rfl, p, _, _, _, rfl, rfl, SqT.of h1, a3_1 _ _ _, _, _, rfl, rfl, by omega, _, rfl, p, _, _, _, rfl, rfl, SqT.of h1, a3_2 _ _ _, t, _, rfl, .inr (SqT.of h2), rfl, flats_nI es, ?_⟩
    have lx : x.length = (cp x).length := by rw [Array.length_toList]; rfl
    rw [if_neg (by decide)]
    show Q (V.bl (inV (V.int ((x.length : Int) % (per : Int))) (es.map nI))) H
    rw [show V.int ((x.length : Int) % (per : Int)) = nI ((cp x).length % per) by rw [← Int.natCast_emod, lx], inv_nI]
    exact q H (Same.refl H)
end
end Vf

set_option Elab.async false
set_option linter.all false
set_option maxRecDepth 100000
set_option maxHeartbeats 4000000
namespace Vf
open PySem PySem.Spec PyProof.Rows L2 L2.Vx Vs Vm Vd Mk
/-! ### plans drawn -/
abbrev sPl : Stmt := top 66
abbrev nPl : List Str := ["_law_deck_here", "_law_signs_here", "_law_way", "_law_far_here", "_law_bit", "_law_size", "_law_k"]
def OvA (a b : Str) : Prop := ∀ c ∈ cp b, c ∈ cp a
def GoodPl (a : Str) : GPlan → Prop
  | .fin tvs ys => ∃ ts : List Str, tvs = ts.map V.str ∧ ys = ts.map some ∧ (ts.length = 0 ∨ ts.length = 1 ∨ ts.length = 2 ∨ ts.length = 3 ∨ ts.length = 6 ∨ ts.length = 12) ∧ ∀ t ∈ ts, t.length ≤ 12 ∧ OvA a t
  | .hav tv yt n => ∃ b : Str, tv = .str b ∧ yt = some b ∧ 1 ≤ b.length ∧ b.length ≤ 12 ∧ OvA a b ∧ n ≤ 6
  | .beg tv yt => ∃ b : Str, tv = .str b ∧ yt = some b ∧ b.length ≤ 12 ∧ OvA a b
  | .ends tv yt => ∃ b : Str, tv = .str b ∧ yt = some b ∧ b.length ≤ 12 ∧ OvA a b
  | .len per es => 0 < per ∧ per ≤ 12 ∧ es.length ≤ 12
def spPl (K : PySem.W.Frag) : Sp := fun vs H Q _ => ∃ (d g : Addr) (a : Str), vs = [.ref d, .str a] ∧ Abc a ∧ DeckAt H d g ∧ ∀ (p : Addr) (gp : GPlan) H', PlanAt K H' p gp → GoodPl a gp → DeckAt H' d g → Keeps d g H H' → Q (.ref p) H'
def farP (n : Nat) : Nat := if n = 1 then 11 else if n = 2 then 11 else if n = 3 then 6 else 5
def tabP : List (Key × V) := [(.inl 1, .int 11), (.inl 2, .int 11), (.inl 3, .int 6), (.inl 4, .int 5)]
theorem tab_p {n : Nat} (h1 : 1 ≤ n) (h4 : n ≤ 4) : valV tabP (Sum.inl (n : Int)) = some (nI (farP n)) := by
  have : n = 1 ∨ n = 2 ∨ n = 3 ∨ n = 4 := by omega
  rcases this with rfl | rfl | rfl | rfl <;> rfl
theorem farP_le (n : Nat) : farP n ≤ 11 := by
  unfold farP
  repeat' split
  all_goals omega
theorem strOr_ov {K : PySem.W.Frag} {H : Hp} {a b : Str} (X : Abc a) (h : OvA a b) (l : b.length ≤ 100000) : StrOr K H (.str b) (some b) := ⟨rfl, l, fun c hc => X.asc c (h c hc)⟩
theorem strsOr_ov {K : PySem.W.Frag} {H : Hp} {a : Str} {ts : List Str} (X : Abc a) (h : ∀ t ∈ ts, t.length ≤ 12 ∧ OvA a t) : StrsOr K H (ts.map V.str) (ts.map some) := by
  refine ⟨by rw [List.length_map, List.length_map], fun i x y e1 e2 => ?_⟩
  rw [List.getElem?_map] at e1 e2
  obtain ⟨t, ht, rfl⟩ := Option.map_eq_some_iff.mp e1
  rw [ht] at e2
  obtain rfl := Option.some.inj e2
  have z := h t (List.mem_of_getElem? ht)
  exact strOr_ov X z.2 (by omega)
theorem to_name {i : Nat} {v : V} {σ σ' : L2.St} {H : Hp} {Q : L2.St → Hp → Prop} (e : σ.set i (some v) = σ') (h : Q σ' H) : gName i v σ H Q := by
  subst e
  exact h
theorem if_slotV {c : Bool} {σ : L2.St} {i : Nat} {v0 : V} {H : Hp} {R : VK} {B : Prop} (T : V → Prop) (hs : σ[i]? = some (some v0)) (h0 : T v0) (hB : (∀ v, T v → R v H) → B) (h : ∀ v, T v → R v H) : if c = true then tVar i σ H R else B := by
  split
  · exact ⟨_, hs, h _ h0⟩
  · exact hB h
structure TxtPl' (mg : Str → Option Value) (fW fP fD : Addr) : Prop extends TxtWd mg fW fP where
  word : mg "_law_word" = some (.ref fD)
  tuple : mg "tuple" = none
section
variable {P : Program} {w : World} {K : PySem.W.Frag} {mg : Str → Option Value} {base : Heap}
theorem scPl : FnScope nPl ["_law_deck_here", "_law_signs_here"] (defScope sPl) := ⟨rfl, rfl, rfl, by decide +kernel, rfl, by decide +kernel, by decide +kernel⟩
theorem ok_pl {f fW fP fD : Addr} {fd fdW fdP fdD : FuncData} (F : Fun K "_law_plan" "_law_plan" sPl f fd) (T : TxtPl' mg fW fP fD)
    (GW : FnOk P w K mg base CX0 1 fW fdW ["_law_deck_here", "_law_below"] spDraw) (bW : L2.Binds K fdW ["_law_deck_here", "_law_below"] []) (kW : PySem.W.keepIn K (.ref fW) = true)
    (GP : FnOk P w K mg base CX0 2 fP fdP ["_law_deck_here", "_law_some"] (spPick K)) (GS : FnOk P w K mg base CX0 2 fP fdP ["_law_deck_here", "_law_some"] spPickS) (bP : L2.Binds K fdP ["_law_deck_here", "_law_some"] []) (kP : PySem.W.keepIn K (.ref fP) = true)
    (GD : FnOk P w K mg base CX0 3 fD fdD ["_law_deck_here", "_law_signs_here", "_law_far_here"] spWd) (bD : L2.Binds K fdD ["_law_deck_here", "_law_signs_here", "_law_far_here"] []) (kD : PySem.W.keepIn K (.ref fD) = true) :
    FnOk P w K mg base CX0 4 f fd ["_law_deck_here", "_law_signs_here"] (spPl K) := by
  refine F.ok scPl (fun vs H Q E h => ?_) (fun cdv A outer s H vs Q E hr h => ?_)
  · obtain ⟨d, g, a, rfl, _⟩ := h
    rfl
  obtain ⟨d, g, a, rfl, X, hD, q⟩ := h
  have hu := hu_of hr
  have hr1 : Room 1 _ := hr.mono (by decide)
  have hr2 : Room 2 _ := hr.mono (by decide)
  refine ⟨_, (pss_cons (ps_par (i := 2) (j := 3) rfl scPl.nd rfl rfl (by decide) rfl rfl (pa_cons (pe_call GW hr1 rfl T.draw kW bW .nil pass0 (pa_cons (pv 0) (pa_cons pe_int pa_nil))) (pa_cons (pe_dget hu (pe_disp (pps_cons pe_int pe_int (pps_cons pe_int pe_int (pps_cons pe_int pe_int (pps_cons pe_int pe_int pps_nil)))) rfl rfl (by simp) (by decide)) (pe_callB call_len_str (by rfl) T.len PySem.boot_len (pa_cons (pv 1) pa_nil)) (fun _ _ => rfl)) pa_nil)) (by rfl))
    (pss_cons (ps_if (pt_cmpR op_eq (pv 2) pe_int (nomark _)) (pss_one (ps_ret (pe_tup (pa_cons pe_str (pa_cons (pe_callTy call_tuple_of (by rfl) T.tuple (by decide +kernel) (pa_cons (pe_lc (own := [("_law_k", 6)]) (g := gName 6) (tt := tYes) rfl scPl.nd (pi_range1 rfl T.range (pa_cons (pe_call GP hr2 rfl T.pick kP bP .nil pass0 (pa_cons (pv 0) (pa_cons (pe_lst (pa_cons pe_int (pa_cons pe_int (pa_cons pe_int (pa_cons pe_int (pa_cons pe_int (pa_cons pe_int pa_nil))))))) pa_nil))) pa_nil)) (blkOk_by (N := nPl) (sc := (defScope sPl)) (by decide +kernel)) (fun _ _ _ _ _ => pg_name (i := 6) scPl.nd rfl (Or.inl rfl)) (fun _ _ _ _ _ => pts_nil) (fun _ _ _ _ _ => by exact (pe_call GD hr rfl T.word kD bD .nil pass0 (pa_cons (pv 0) (pa_cons (pv 1) (pa_cons pe_int pa_nil)))))) pa_nil)) pa_nil))))) pss_nil)
    (pss_cons (ps_if (pt_cmpR op_lt (pv 2) pe_int (nomark _)) (pss_cons (ps_set (i := 4) scPl.nd rfl (Or.inl rfl) (pe_op op_add_str (pe_call GS hr2 rfl T.pick kP bP .nil pass0 (pa_cons (pv 0) (pa_cons (pv 1) pa_nil))) (pe_call GD hr rfl T.word kD bD .nil pass0 (pa_cons (pv 0) (pa_cons (pv 1) (pa_cons (pe_call GP hr2 rfl T.pick kP bP .nil pass0 (pa_cons (pv 0) (pa_cons (pe_lst (pa_cons pe_int (pa_cons pe_int (pa_cons pe_int (pa_cons pe_int (pa_cons (pv 3) pa_nil)))))) pa_nil))) pa_nil))))))
    (pss_one (ps_ret (pe_tup (pa_cons pe_str (pa_cons (pe_ifExp (pt_cmpR op_gt (pe_call GW hr1 rfl T.draw kW bW .nil pass0 (pa_cons (pv 0) (pa_cons pe_int pa_nil))) pe_int (nomark _)) (pv 4) (pe_op op_mul_str (pe_ix ix_str (pv 4) pe_int (fun _ _ => rfl)) (pe_callB call_len_str (by rfl) T.len PySem.boot_len (pa_cons (pv 4) pa_nil)))) (pa_cons (pe_call GW hr1 rfl T.draw kW bW .nil pass0 (pa_cons (pv 0) (pa_cons pe_int pa_nil))) pa_nil))))))) pss_nil)
    (pss_cons (ps_if (pt_cmpR op_lt (pv 2) pe_int (nomark _)) (pss_one (ps_ret (pe_tup (pa_cons (pe_ix ix_list (pe_lst (pa_cons pe_str (pa_cons pe_str pa_nil))) (pe_op op_sub (pv 2) pe_int) (fun _ _ => rfl)) (pa_cons (pe_call GD hr rfl T.word kD bD .nil pass0 (pa_cons (pv 0) (pa_cons (pv 1) (pa_cons (pe_op op_add (pv 3) pe_int) pa_nil)))) pa_nil))))) pss_nil)
    (pss_cons (ps_set (i := 5) scPl.nd rfl (Or.inl rfl) (pe_op op_add pe_int (pe_call GW hr1 rfl T.draw kW bW .nil pass0 (pa_cons (pv 0) (pa_cons pe_int pa_nil)))))
    (pss_one (ps_ret (pe_tup (pa_cons pe_str (pa_cons (pv 5) (pa_cons (pe_callTy call_tuple_of (by rfl) T.tuple (by decide +kernel) (pa_cons (pe_lc (own := [("_law_k", 6)]) (g := gName 6) (tt := _) rfl scPl.nd (pi_range1 rfl T.range (pa_cons (pv 5) pa_nil)) (blkOk_by (N := nPl) (sc := (defScope sPl)) (by decide +kernel)) (fun _ _ _ _ _ => pg_name (i := 6) scPl.nd rfl (Or.inl rfl)) (fun _ _ _ _ _ => by exact pts_one (pt_cmpR op_eq (pe_call GW hr1 rfl T.draw kW bW .nil pass0 (pa_cons (pv 0) (pa_cons pe_int pa_nil))) pe_int (nomark _))) (fun _ _ _ _ _ => by exact (pv 6))) pa_nil)) pa_nil))))))))))), ?_⟩
  obtain ⟨x1, x4⟩ := X.four
  have la : (cp a).length = a.length := by rw [Array.length_toList]; rfl
  refine ⟨_, rfl, d, g, _, rfl, by decide, by decide, hD, fun r1 H1 r10 r11 hD1 k1 => ?_⟩
  intro p hp
  refine ⟨upd_same, tabP, rfl, by decide, ?_⟩
  have e1 : upd (upd H1 p (.dK [])) p (.dK (mergeK [] tabP)) p = some (.dK tabP) := by rw [upd_same]; rfl
  have sm : Same H1 (upd (upd H1 p (.dK [])) p (.dK (mergeK [] tabP))) := fun b o e => by
    rw [upd_ne (ne_of_none e hp), upd_ne (ne_of_none e hp)]
    exact e
  have gg := DGet.k (k := Sum.inl (a.length : Int)) e1
  rw [show valV tabP (Sum.inl (a.length : Int)) = some (nI (farP a.length)) from tab_p x1 x4] at gg
  refine ⟨_, rfl, a, rfl, Nat.le_trans x4 (by decide), p, _, rfl, gg, _, _, rfl, ?_⟩
  have k2 := k1.trans (.of sm)
  have hD2 := hD1.same sm
  show tSeq _ _ _ [some (.ref d), some (.str a), some (.int r1), some (nI (farP a.length)), none, none, none] _
  generalize upd (upd H1 p (.dK [])) p (.dK (mergeK [] tabP)) = H2 at k2 hD2 ⊢
  clear e1 sm gg hp hD1 k1 H1
  have fl := farP_le a.length
  generalize farP a.length = far at fl ⊢
  refine ⟨_, rfl, rfl, _, rfl, ?_⟩
  by_cases c0 : r1 = 0
  · subst c0
    refine if_tr (decide_eq_true rfl) ?_
    refine ⟨_, rfl, (by show 6 ≤ sizeLine; decide), fun pl hpl => ?_⟩
    have t1 := same_new hpl (.lst [V.int 0, V.int 1, V.int 2, V.int 3, V.int 6, V.int 12])
    obtain ⟨n1, n2⟩ := hD2.dn hpl
    refine ⟨d, g, pl, _, rfl, SqL.of upd_same, n1, n2, by simp, (by show 6 < 1000000; decide), hD2.same t1, fun x H3 hx hD3 k3 => ?_⟩
    obtain ⟨m, rfl, hm⟩ : ∃ m : Nat, x = nI m ∧ (m = 0 ∨ m = 1 ∨ m = 2 ∨ m = 3 ∨ m = 6 ∨ m = 12) := by
      simp only [List.mem_cons, List.not_mem_nil, or_false] at hx
      rcases hx with rfl | rfl | rfl | rfl | rfl | rfl
      · exact ⟨0, rfl, by simp⟩
      · exact ⟨1, rfl, by simp⟩
      · exact ⟨2, rfl, by simp⟩
      · exact ⟨3, rfl, by simp⟩
      · exact ⟨6, rfl, by simp⟩
      · exact ⟨12, rfl, by simp⟩
    have k13 := k2.trans ((Keeps.of t1).trans k3)
    have em : (m : Int).toNat = m := by omega
    refine ⟨(m : Int), rfl, by omega, by omega, fun D hDn => ?_⟩
    have nD := hD3.dn hDn
    refine lc_it walk_range (fun i H' => ∃ ts : List Str, H' D = some (.lst (ts.map V.str)) ∧ ts.length = i ∧ (∀ t ∈ ts, t.length ≤ 12 ∧ OvA a t) ∧ DeckAt H' d g ∧ Keeps d g H H') ⟨[], upd_same, rfl, (fun _ h => nomatch h), hD3.same (same_new hDn _), k13.trans (.of (same_new hDn _))⟩ (fun _ _ _ _ => trivial) ?_ ?_
    · rintro i x H4 H5 hi ⟨ts, m1, m2, m3, hD4, k4⟩ ⟨rfl, rfl⟩
      rw [em] at hi
      refine ⟨rfl, _, rfl, _, rfl, d, g, a, 12, rfl, x1, x4, by decide, hD4, fun t H6 ht1 ht2 hD6 k6 => ?_⟩
      refine ⟨_, k6 _ _ nD.1 nD.2 m1, by rw [List.length_map, m2, sizeLine_eq]; omega, ts ++ [t], ?_, by rw [List.length_append, m2]; rfl, ?_, hD6.other nD.1 nD.2 _, fun b o n1 n2 e => ?_⟩
      · rw [upd_same, List.map_append]
        rfl
      · intro y hy
        rcases List.mem_append.mp hy with hy | hy
        · exact m3 y hy
        · rw [List.mem_singleton.mp hy]
          exact ⟨ht1, ht2⟩
      · rw [upd_ne (ne_of_none (k13 b o n1 n2 e) hDn)]
        exact k6 b o n1 n2 (k4 b o n1 n2 e)
    rintro H4 ⟨ts, m1, m2, m3, hD4, k4⟩
    rw [em] at m2
    refine ⟨D, _, rfl, .inl ⟨SqL.of m1, fun tt htt => ⟨(by show 2 ≤ sizeLine; decide), fun tp htp => ?_⟩⟩⟩
    have s1 := same_new htt (.tup (ts.map V.str))
    have s2 := same_new htp (.tup [V.str "finite", V.ref tt])
    exact q tp (.fin (ts.map V.str) (ts.map some)) _ ⟨tt, upd_same, s2 _ _ upd_same, strsOr_ov X m3⟩ ⟨ts, rfl, rfl, by rw [m2]; exact hm, m3⟩ (hD4.same (s1.trans s2)) (k4.trans (.of (s1.trans s2)))
  refine if_fl (decide_eq_false fun z => c0 (V.int.inj z)) ?_
  refine ⟨_, rfl, _, _, rfl, rfl, _, rfl, ?_⟩
  by_cases c3 : r1 < 3
  · refine if_tr (decide_eq_true c3) ?_
    refine ⟨_, rfl, _, rfl, d, g, a, rfl, by omega, by omega, hD2, fun x0 H3 hx0 hD3 k3 => ?_⟩
    refine ⟨_, rfl, _, rfl, _, rfl, _, rfl, (by show 5 ≤ sizeLine; decide), fun pl hpl => ?_⟩
    have t1 := same_new hpl (.lst [V.int 0, V.int 1, V.int 2, V.int 4, nI far])
    obtain ⟨n1, n2⟩ := hD3.dn hpl
    refine ⟨d, g, pl, _, rfl, SqL.of upd_same, n1, n2, by simp, (by show 5 < 1000000; decide), hD3.same t1, fun x H4 hx hD4 k4 => ?_⟩
    obtain ⟨m, rfl, hm⟩ : ∃ m : Nat, x = nI m ∧ m ≤ 11 := by
      simp only [List.mem_cons, List.not_mem_nil, or_false] at hx
      rcases hx with rfl | rfl | rfl | rfl | rfl
      · exact ⟨0, rfl, by omega⟩
      · exact ⟨1, rfl, by omega⟩
      · exact ⟨2, rfl, by omega⟩
      · exact ⟨4, rfl, by omega⟩
      · exact ⟨far, rfl, fl⟩
    refine ⟨d, g, a, m, rfl, x1, x4, by omega, hD4, fun y H5 hy1 hy2 hD5 k5 => ?_⟩
    have k15 := k2.trans (((k3.trans (.of t1)).trans k4).trans k5)
    have l0 : (mkS [x0]).length = 1 := mkS_length _
    have lb : (mkS [x0] ++ y).length = 1 + y.length := by
      have ly : y.length = (cp y).length := by rw [Array.length_toList]; rfl
      show ([x0].toArray ++ y.cps).size = _
      rw [Array.size_append, List.size_toArray]
      rfl
    have ob : OvA a (mkS [x0] ++ y) := fun c hc => by
      rw [cp_app] at hc
      rcases List.mem_append.mp hc with h | h
      · obtain rfl := List.mem_singleton.mp h
        exact hx0
      · exact hy2 c h
    have hc0 : (cp (mkS [x0] ++ y))[0]? = some x0 := by
      rw [cp_app]
      rfl
    refine ⟨_, _, rfl, rfl, by rw [l0, sizeLine_eq]; omega, ?_⟩
    refine to_name (σ' := [some (.ref d), some (.str a), some (.int r1), some (nI far), some (.str (mkS [x0] ++ y)), none, none]) rfl ?_
    generalize mkS [x0] ++ y = b at lb ob hc0 ⊢
    refine ⟨_, rfl, d, g, _, rfl, by decide, by decide, hD5, fun r2 H6 r20 r21 hD6 k6 => ⟨_, _, rfl, rfl, _, rfl, ?_⟩⟩
    refine if_slotV (fun v => ∃ b' : Str, v = .str b' ∧ 1 ≤ b'.length ∧ b'.length ≤ 12 ∧ OvA a b') rfl ⟨b, rfl, by omega, by omega, ob⟩ (fun key => ?_) fun v hv => ?_
    · refine ⟨_, rfl, b, 0, _, rfl, rfl, by rw [sizeLine_eq]; omega, atI_nat (j := 0) hc0, _, rfl, b, rfl, by rw [sizeLine_eq]; omega, mkS [x0], _, rfl, rfl, mulOk_of (by show 1 ≤ 4000; decide) (by omega), ?_⟩
      rw [mul_times]
      refine key _ ⟨_, rfl, ?_, ?_, fun c hc => ?_⟩
      · rw [mkS_length, times_length]
        show 1 ≤ b.length * 1
        omega
      · rw [mkS_length, times_length]
        show b.length * 1 ≤ 12
        omega
      · obtain rfl := List.mem_singleton.mp (times_mem hc)
        exact hx0
    · obtain ⟨b', rfl, b1, b2, b3⟩ := hv
      refine ⟨_, rfl, d, g, _, rfl, by decide, by decide, hD6, fun r3 H7 r30 r31 hD7 k7 => ⟨(by show 3 ≤ sizeLine; decide), fun tp htp => ?_⟩⟩
      obtain ⟨n, rfl⟩ := Int.eq_ofNat_of_zero_le r30
      have s2 := same_new htp (.tup [V.str "having", V.str b', V.int (n : Nat)])
      exact q tp (.hav (.str b') (some b') n) _ ⟨upd_same, strOr_ov X b3 (by omega)⟩ ⟨b', rfl, rfl, b1, b2, b3, by omega⟩ (hD7.same s2) ((k15.trans (k6.trans k7)).trans (.of s2))
  refine if_fl (decide_eq_false c3) ?_
  refine ⟨_, rfl, _, _, rfl, rfl, _, rfl, ?_⟩
  by_cases c5 : r1 < 5
  · refine if_tr (decide_eq_true c5) ?_
    refine ⟨(by show 2 ≤ sizeLine; decide), fun pl hpl => ?_⟩
    have t1 := same_new hpl (.lst [V.str "beginning", V.str "ending"])
    have wd : r1 = 3 ∨ r1 = 4 := by omega
    have hD3 := hD2.same t1
    have k3 := k2.trans (.of t1)
    rcases wd with rfl | rfl
    · refine ⟨_, rfl, _, _, rfl, rfl, pl, _, _, _, rfl, rfl, SqL.of upd_same, atI_nat (j := 0) rfl, _, rfl, _, rfl, _, rfl, _, _, rfl, rfl, d, g, a, far + 1, rfl, x1, x4, by omega, hD3, fun y H5 hy1 hy2 hD5 k5 => ⟨(by show 2 ≤ sizeLine; decide), fun tp htp => ?_⟩⟩
      have s2 := same_new htp (.tup [V.str "beginning", V.str y])
      exact q tp (.beg (.str y) (some y)) _ ⟨upd_same, strOr_ov X hy2 (by omega)⟩ ⟨y, rfl, rfl, by omega, hy2⟩ (hD5.same s2) ((k3.trans k5).trans (.of s2))
    · refine ⟨_, rfl, _, _, rfl, rfl, pl, _, _, _, rfl, rfl, SqL.of upd_same, atI_nat (j := 1) rfl, _, rfl, _, rfl, _, rfl, _, _, rfl, rfl, d, g, a, far + 1, rfl, x1, x4, by omega, hD3, fun y H5 hy1 hy2 hD5 k5 => ⟨(by show 2 ≤ sizeLine; decide), fun tp htp => ?_⟩⟩
      have s2 := same_new htp (.tup [V.str "ending", V.str y])
      exact q tp (.ends (.str y) (some y)) _ ⟨upd_same, strOr_ov X hy2 (by omega)⟩ ⟨y, rfl, rfl, by omega, hy2⟩ (hD5.same s2) ((k3.trans k5).trans (.of s2))
  refine if_fl (decide_eq_false c5) ?_
  refine ⟨_, rfl, d, g, _, rfl, by decide, by decide, hD2, fun r2 H3 r20 r21 hD3 k3 => ?_⟩
  obtain ⟨n, rfl⟩ := Int.eq_ofNat_of_zero_le r20
  refine ⟨_, _, rfl, rfl, ?_⟩
  refine to_name (σ' := [some (.ref d), some (.str a), some (.int r1), some (nI far), none, some (nI (1 + n)), none]) rfl ?_
  have k13 := k2.trans k3
  have em : (((1 + n : Nat) : Int)).toNat = 1 + n := by omega
  refine ⟨_, rfl, _, rfl, (((1 + n : Nat) : Int)), rfl, by omega, by omega, fun D hDn => ?_⟩
  have nD := hD3.dn hDn
  refine lc_it walk_range (fun i H' => ∃ es : List Nat, H' D = some (.lst (es.map nI)) ∧ es.length ≤ i ∧ DeckAt H' d g ∧ Keeps d g H H') ⟨[], upd_same, Nat.le_refl _, hD3.same (same_new hDn _), k13.trans (.of (same_new hDn _))⟩ (fun _ _ _ _ => trivial) ?_ ?_
  · rintro i x H4 H5 hi ⟨es, m1, m2, hD4, k4⟩ ⟨rfl, rfl⟩
    rw [em] at hi
    refine ⟨rfl, _, rfl, d, g, _, rfl, by decide, by decide, hD4, fun r H6 z0 z1 hD6 k6 => ⟨rfl, _, rfl, ?_⟩⟩
    have m1' := k6 _ _ nD.1 nD.2 m1
    refine ite2 (fun c => ⟨_, rfl, _, m1', by rw [List.length_map, sizeLine_eq]; omega, es ++ [i], ?_, by rw [List.length_append]; exact Nat.add_le_add_right m2 1, hD6.other nD.1 nD.2 _, fun b o n1 n2 e => ?_⟩) (fun c => ⟨es, m1', Nat.le_succ_of_le m2, hD6, k4.trans k6⟩)
    · rw [upd_same, List.map_append]
      show some (HO.lst (es.map nI ++ [V.int ((0 : Int) + (i : Nat))])) = _
      rw [Int.zero_add]
      rfl
    · rw [upd_ne (ne_of_none (k13 b o n1 n2 e) hDn)]
      exact k6 b o n1 n2 (k4 b o n1 n2 e)
  rintro H4 ⟨es, m1, m2, hD4, k4⟩
  rw [em] at m2
  refine ⟨D, _, rfl, .inl ⟨SqL.of m1, fun tt htt => ⟨(by show 3 ≤ sizeLine; decide), fun tp htp => ?_⟩⟩⟩
  have s1 := same_new htt (.tup (es.map nI))
  have s2 := same_new htp (.tup [V.str "lengths", nI (1 + n), V.ref tt])
  exact q tp (.len (1 + n) es) _ ⟨tt, upd_same, s2 _ _ upd_same⟩ ⟨by omega, by omega, by omega⟩ (hD4.same (s1.trans s2)) (k4.trans (.of (s1.trans s2)))
end
end Vf

set_option Elab.async false
set_option linter.all false
set_option maxRecDepth 100000
set_option maxHeartbeats 2000000
namespace Vs
open PySem PySem.Spec PyProof.Rows L2
/-! ### walks with any body: comprehensions of two loops; calls of defs with a star -/
theorem walk_gen {J : It} {n : Nat} {G : Hp → Prop} {Y : Nat → Hp → V → Hp → Prop} (wk : Walk J n G Y) {B : V → Hp → (Hp → Prop) → Prop} {H0 : Hp} {Qd : Hp → Prop} (Pv : Nat → Hp → Prop) (start : Pv 0 H0) (good : ∀ i H, i ≤ n → Pv i H → G H)
    (turn : ∀ i x H H', i < n → Pv i H → Y i H x H' → B x H' (Pv (i + 1))) (fin : ∀ H, Pv n H → Qd H) :
    ∃ W : Nat → Nat → Hp → Prop, (∃ m, W 0 m H0) ∧ ∀ i m H, W i m H → (J.stop i H ∧ Qd H) ∨ (J.go i H ∧ ∃ Nx : Hp → Prop, (∀ H', Nx H' → ∃ m', m' < m ∧ W (i + 1) m' H') ∧ ∀ x H', J.yld i H x H' → B x H' Nx) := by
  refine ⟨fun j m H => m = n - j ∧ j ≤ n ∧ Pv j H, ⟨n - 0, rfl, Nat.zero_le _, start⟩, fun j m H ⟨em, hj, pj⟩ => ?_⟩
  have gj := good j H hj pj
  rcases Nat.lt_or_ge j n with lt | ge
  · refine .inr ⟨wk.goes j H lt gj, Pv (j + 1), fun H' pn => ⟨n - (j + 1), by omega, rfl, lt, pn⟩, fun x H' yx => turn j x H H' lt pj (wk.yields j H x H' lt gj yx)⟩
  · obtain rfl : j = n := by omega
    exact .inl ⟨wk.stops H gj, fin H pj⟩
section
variable {X : Cx} {CX : CXT} {k : Nat} {f : Addr} {sp : Sp} {E : XK} {x : Str} {p pos : Pos} {e : Expr} {es : List Expr} {t : TA}
/-- x(e, ..), x a def of the module that makes objects while it binds -/
theorem pe_callR (F : FnR X.prog X.w X.K X.mg X.base CX k f sp) (room : Room k X.A) (hg : Gl X x) (hm : X.mg x = some (.ref f)) (kp : PySem.W.keepIn X.K (.ref f) = true) (px : Passes CX X E) (ha : PA X (e :: es) t) (hdb : (x == ("__debug__" : Str)) = false := by decide)
    (h1 : starEach (e :: es) X.env = (false, eval e X.env) :: starEach es X.env := by rfl) (h2 : (backTo pos (starEach es X.env)).any (·.1) = false := by rfl) :
    PE X (.Call (.Name x p) (e :: es) [] pos) (fun σ H Q => t σ H fun vs H1 => sp vs H1 Q E) := by
  refine ⟨fun pins s σ H Q I h => wpAny_Call_Name_kw (ld_glob I hg hm ?_ hdb)⟩
  refine PySem.W.callWith_K (h₀ := X.base) I.ok.mod.kin kp (thn (ha.run pos pins s σ H _ I h) fun us s1 ⟨vs, H1, I1, r, q⟩ => ⟨I1.kIn, ?_⟩) h1 h2
  exact wpAny_call (run_fnR F room px I1 r q)
end
/-- rules for a fixed K -/
theorem len_atK {X : Cx} {K : PySem.W.Frag} (e : X.K = K) : CallR X (.builtin "len") (fun xs H Q => ∃ p ys, xs = [.ref p] ∧ (SqL K H p ys ∨ SqT K H p ys) ∧ Q (.int ys.length) H) := e ▸ call_len_seq
theorem pe_bm_at {X : Cx} {K : PySem.W.Frag} {T : String} {id : String} {name : Str} {r : V → List V → Hp → VK → Prop} {o e : Expr} {es : List Expr} {to : TE} {t : TA} {apos cpos : Pos} (eK : X.K = K) (pa : PlainAttrs T) (slot : Slot T name id) (hty : typeOf (.builtin id) = pure (.type "method_descriptor")) (hm : MtR X id r) (ho : PE X o to) (ha : PA X (e :: es) t)
    (g1 : attributeBase o name X.env (eval o X.env) = eval o X.env := by rfl)
    (g2 : ((backTo cpos (starEach (e :: es) X.env)).all (fun x => !x.1) && (backToKw cpos (keywordEach [] X.env)).all (fun x => x.1.isSome) && decide ((e :: es).length + ([] : List Keyword).length + (if ([] : List Keyword).isEmpty then 0 else 1) < 30)) = true := by rfl)
    (g3 : (apos.endLine == cpos.line) = true := by rfl) (g4 : starEach (e :: es) X.env = (false, eval e X.env) :: starEach es X.env := by rfl) (g5 : (backTo cpos (starEach es X.env)).any (·.1) = false := by rfl) :
    PE X (.Call (.Attribute o name apos) (e :: es) [] cpos) (tBM K T r to t) := by
  subst eK
  exact pe_bm pa slot hty hm ho ha g1 g2 g3 g4 g5
end Vs

set_option Elab.async false
set_option linter.all false
set_option maxRecDepth 100000
set_option maxHeartbeats 4000000
namespace Vf
open PySem PySem.Spec PyProof.Rows L2 L2.Vx Vs Vm Vd Mk
/-! ### what is made of a plan -/
abbrev sFn : Stmt := top 67
abbrev nFn : List Str := ["_law_signs_here", "_law_lot", "_law_a", "_law_b", "_law_c", "_law_d", "_law_e", "_law_f"]
def badF (a : Str) : List V → List (Option Str) → Option V
  | x :: xs, y :: ys => if okT a y = true then badF a xs ys else some x
  | _, _ => none
/-- the first value of a plan that is refused -/
def badV (a : Str) : GPlan → Option V
  | .fin tvs ys => badF a tvs ys
  | .hav tv yt _ => if okT a yt = true ∧ yt ≠ some "" then none else some tv
  | .beg tv yt => if okT a yt = true then none else some tv
  | .ends tv yt => if okT a yt = true then none else some tv
  | .len _ _ => none
theorem bad_first {a : Str} : ∀ (xs : List V) (ys : List (Option Str)) (i : Nat) (x : V) (y : Option Str), xs[i]? = some x → ys[i]? = some y → okT a y = false → (∀ (j : Nat) (z : Option Str), j < i → ys[j]? = some z → okT a z = true) → badF a xs ys = some x
  | [], _, _, _, _, h, _, _, _ => by simp at h
  | _ :: _, [], _, _, _, _, h, _, _ => by simp at h
  | x0 :: xs, y0 :: ys, 0, x, y, e1, e2, c, _ => by
    obtain rfl := Option.some.inj e1
    obtain rfl := Option.some.inj e2
    unfold badF
    rw [if_neg (by rw [c]; decide)]
  | x0 :: xs, y0 :: ys, i + 1, x, y, e1, e2, c, h => by
    unfold badF
    rw [if_pos (h 0 y0 (Nat.succ_pos i) rfl)]
    exact bad_first xs ys i x y e1 e2 c fun j z hj hz => h (j + 1) z (Nat.succ_lt_succ hj) hz
theorem bad_none {a : Str} : ∀ (xs : List V) (ys : List (Option Str)), (∀ z ∈ ys, okT a z = true) → badF a xs ys = none
  | [], _, _ => rfl
  | _ :: _, [], _ => rfl
  | x0 :: xs, y0 :: ys, h => by
    unfold badF
    rw [if_pos (h y0 (List.mem_cons_self ..))]
    exact bad_none xs ys fun z hz => h z (List.mem_cons_of_mem _ hz)
/-- what a plan gives: refusals, and the language -/
structure Ans (C CB CT : Addr) (yl : Option Str) (gp : GPlan) (H : Hp) (Q : VK) (E : XK) : Prop where
  letters : okL yl = false → RefV CB "part" (.str "letters") H E
  text : ∀ a, yl = some a → letB a = true → ∀ x, badV a gp = some x → RefV CT "value" x H E
  made : ∀ a, yl = some a → letB a = true → badV a gp = none → ∀ (q : Addr) (R : List (List Nat)) (eR : List Nat) H', Same H H' → LG C H' q a R eR → (∀ w : List Nat, (∀ i ∈ w, i < a.length) → (Wd R eR w = true ↔ due gp (back (cp a) w))) → R.length ≤ 900 → Q (.ref q) H'
theorem Ans.same {C CB CT : Addr} {yl : Option Str} {gp : GPlan} {H H1 : Hp} {Q : VK} {E : XK} (h : Ans C CB CT yl gp H Q E) (s : Same H H1) : Ans C CB CT yl gp H1 Q E :=
  ⟨fun c => (h.letters c).after s, fun a e c x b => (h.text a e c x b).after s, fun a e c b q R eR H' s' => h.made a e c b q R eR H' (s.trans s')⟩
def FewT (ys : List (Option Str)) : Prop := ((wsOf ys).map fun x => x.length + 1).sum ≤ 800 ∧ ys.length ≤ 12
theorem fin_ans {K : PySem.W.Frag} {C CB CT : Addr} {v : V} {yl : Option Str} {tvs : List V} {ys : List (Option Str)} {H : Hp} {Q : VK} {E : XK} (hv : StrOr K H v yl) (hys : StrsOr K H tvs ys) (few : FewT ys) (A : Ans C CB CT yl (.fin tvs ys) H Q E) :
    ∃ ws rest, v :: tvs = ws ++ rest ∧ ws.length = 1 ∧ rest.length ≤ sizeLine ∧ ∀ p, H p = none → spFt0 K C CB CT (ws ++ [V.ref p]) (upd H p (.tup rest)) Q E := by
  refine ⟨[v], tvs, rfl, rfl, by rw [hys.1, sizeLine_eq]; have := few.2; omega, fun p hp => ?_⟩
  have s := same_new hp (.tup tvs)
  have A' := A.same s
  refine ⟨v, p, tvs, yl, ys, rfl, upd_same, strOr_same hv s, strsOr_same hys s, few.1, by rw [hys.1]; have := few.2; omega, A'.letters, fun a e c => ⟨fun i x y e1 e2 c2 h => A'.text a e c x (bad_first tvs ys i x y e1 e2 c2 h), fun all => A'.made a e c (bad_none tvs ys all)⟩⟩
theorem tup_shaped {t : Str} (h : ∀ c ∈ cp t, c < 128) : SeqAt.shaped (.tuple [.str t]) = true := by
  have ok : PyData.strOk t = true := by
    unfold PyData.strOk
    rw [Array.all_eq_true']
    exact fun c hc => decide_eq_true (Nat.lt_trans (h c (Array.mem_toList_iff.mpr hc)) (by decide))
  simp [SeqAt.shaped, PyData.canLay0, PyData.canLayAll0, PyData.depth, PyData.depthAll, ok]
theorem two_ {α : Type} : ∀ {l : List α}, l.length = 2 → ∃ a b, l = [a, b]
  | [a, b], _ => ⟨a, b, rfl⟩
theorem three_ {α : Type} : ∀ {l : List α}, l.length = 3 → ∃ a b c, l = [a, b, c]
  | [a, b, c], _ => ⟨a, b, c, rfl⟩
theorem six_ {α : Type} : ∀ {l : List α}, l.length = 6 → ∃ a b c d e f, l = [a, b, c, d, e, f]
  | [a, b, c, d, e, f], _ => ⟨a, b, c, d, e, f, rfl⟩
theorem twelve_ {α : Type} : ∀ {l : List α}, l.length = 12 → ∃ a b c d e f g h i j k m, l = [a, b, c, d, e, f, g, h, i, j, k, m]
  | [a, b, c, d, e, f, g, h, i, j, k, m], _ => ⟨a, b, c, d, e, f, g, h, i, j, k, m, rfl⟩
def SizesT (n : Nat) : Prop := n = 0 ∨ n = 1 ∨ n = 2 ∨ n = 3 ∨ n = 6 ∨ n = 12
def spFn (K : PySem.W.Frag) (C CB CT : Addr) : Sp := fun vs H Q E => ∃ (v : V) (q : Addr) (tvs : List V) (yl : Option Str) (ys : List (Option Str)), vs = [v, .ref q] ∧ H q = some (.tup tvs) ∧ StrOr K H v yl ∧ StrsOr K H tvs ys ∧ SizesT tvs.length ∧ FewT ys ∧ (tvs.length < 2 → ∀ y ∈ ys, y ≠ none) ∧ Ans C CB CT yl (.fin tvs ys) H Q E
structure TxtFn (mg : Str → Option Value) (fF : Addr) : Prop where
  len : mg "len" = none
  fin : mg "finite" = some (.ref fF)
section
variable {P : Program} {w : World} {K : PySem.W.Frag} {mg : Str → Option Value} {base : Heap} {C CB CT : Addr}
theorem scFn : FnScope nFn ["_law_signs_here", "_law_lot"] (defScope sFn) := ⟨rfl, rfl, rfl, by decide +kernel, rfl, by decide +kernel, by decide +kernel⟩
theorem ok_fn {f fF : Addr} {fd : FuncData} (F : Fun K "_law_finite" "_law_finite" sFn f fd) (T : TxtFn mg fF)
    (GF : FnR P w K mg base (L2.CX P w) 7 fF (fun vs H Q E => ∃ ws rest, vs = ws ++ rest ∧ ws.length = 1 ∧ rest.length ≤ sizeLine ∧ ∀ p, H p = Option.none → spFt0 K C CB CT (ws ++ [V.ref p]) (upd H p (.tup rest)) Q E)) (kF : PySem.W.keepIn K (.ref fF) = true) :
    FnOk P w K mg base (L2.CX P w) 8 f fd ["_law_signs_here", "_law_lot"] (spFn K C CB CT) := by
  refine F.okX scFn (fun vs H Q E h => ?_) (fun cdv Ar outer s H vs Q E hr h => ?_)
  · obtain ⟨v, q, tvs, yl, ys, rfl, _⟩ := h
    rfl
  obtain ⟨v, q, tvs, yl, ys, rfl, hq, hv, hys, sz, few, two, A⟩ := h
  have hu64 : (Ar.deeper (envOfC "_law_finite" (defScope sFn) s.heap.objs.size f cdv)).units + 64 < cLine := by
    have z := hr.un
    omega
  refine ⟨_, (pss_cons (ps_if (pt_cmpR op_lt (pe_callB call_len_seq (by rfl) T.len PySem.boot_len (pa_cons (pv 1) pa_nil)) pe_int (nomark _)) (pss_one (ps_ret (pe_ifExp (pt_cmpR (op_eqD hu64) (pv 1) (pe_tup pa_nil) (nomark _)) (pe_callR GF hr (by rfl) T.fin kF (passes_call (takes_of rfl rfl rfl rfl) (fun _ _ _ _ h => h)) (pa_cons (pv 0) pa_nil)) (pe_callR GF hr (by rfl) T.fin kF (passes_call (takes_of rfl rfl rfl rfl) (fun _ _ _ _ h => h)) (pa_cons (pv 0) (pa_cons (pe_ix ix_tup (pv 1) pe_int (fun _ _ => rfl)) pa_nil)))))) pss_nil)
    (pss_cons (ps_if (pt_cmpR op_lt (pe_callB call_len_seq (by rfl) T.len PySem.boot_len (pa_cons (pv 1) pa_nil)) pe_int (nomark _)) (pss_one (ps_ret (pe_ifExp (pt_cmpR op_eq (pe_callB call_len_seq (by rfl) T.len PySem.boot_len (pa_cons (pv 1) pa_nil)) pe_int (nomark _)) (pe_callR GF hr (by rfl) T.fin kF (passes_call (takes_of rfl rfl rfl rfl) (fun _ _ _ _ h => h)) (pa_cons (pv 0) (pa_cons (pe_ix ix_tup (pv 1) pe_int (fun _ _ => rfl)) (pa_cons (pe_ix ix_tup (pv 1) pe_int (fun _ _ => rfl)) pa_nil)))) (pe_callR GF hr (by rfl) T.fin kF (passes_call (takes_of rfl rfl rfl rfl) (fun _ _ _ _ h => h)) (pa_cons (pv 0) (pa_cons (pe_ix ix_tup (pv 1) pe_int (fun _ _ => rfl)) (pa_cons (pe_ix ix_tup (pv 1) pe_int (fun _ _ => rfl)) (pa_cons (pe_ix ix_tup (pv 1) pe_int (fun _ _ => rfl)) pa_nil)))))))) pss_nil)
    (pss_cons (ps_asg (pe_slice sl_tupA (pv 1) po_none (po_some pe_int)) (pg_tup rfl (pgs_cons (pg_name (i := 2) scFn.nd rfl (Or.inl rfl)) (pgs_cons (pg_name (i := 3) scFn.nd rfl (Or.inl rfl)) (pgs_cons (pg_name (i := 4) scFn.nd rfl (Or.inl rfl)) (pgs_cons (pg_name (i := 5) scFn.nd rfl (Or.inl rfl)) (pgs_cons (pg_name (i := 6) scFn.nd rfl (Or.inl rfl)) (pgs_cons (pg_name (i := 7) scFn.nd rfl (Or.inl rfl)) pgs_nil))))))))
    (pss_cons (ps_if (pt_cmpR op_eq (pe_callB call_len_seq (by rfl) T.len PySem.boot_len (pa_cons (pv 1) pa_nil)) pe_int (nomark _)) (pss_one (ps_ret (pe_callR GF hr (by rfl) T.fin kF (passes_call (takes_of rfl rfl rfl rfl) (fun _ _ _ _ h => h)) (pa_cons (pv 0) (pa_cons (pv 2) (pa_cons (pv 3) (pa_cons (pv 4) (pa_cons (pv 5) (pa_cons (pv 6) (pa_cons (pv 7) pa_nil)))))))))) pss_nil)
    (pss_one (ps_ret (pe_callR GF hr (by rfl) T.fin kF (passes_call (takes_of rfl rfl rfl rfl) (fun _ _ _ _ h => h)) (pa_cons (pv 0) (pa_cons (pv 2) (pa_cons (pv 3) (pa_cons (pv 4) (pa_cons (pv 5) (pa_cons (pv 6) (pa_cons (pv 7) (pa_cons (pe_ix ix_tup (pv 1) pe_int (fun _ _ => rfl)) (pa_cons (pe_ix ix_tup (pv 1) pe_int (fun _ _ => rfl)) (pa_cons (pe_ix ix_tup (pv 1) pe_int (fun _ _ => rfl)) (pa_cons (pe_ix ix_tup (pv 1) pe_int (fun _ _ => rfl)) (pa_cons (pe_ix ix_tup (pv 1) pe_int (fun _ _ => rfl)) (pa_cons (pe_ix ix_tup (pv 1) pe_int (fun _ _ => rfl)) pa_nil)))))))))))))))))))), ?_⟩
  have ylen : ys.length = tvs.length := hys.1.symm
  have A0 := fin_ans hv hys few A
  refine ⟨_, rfl, q, _, rfl, .inr (SqT.of hq), _, _, rfl, rfl, _, rfl, ?_⟩
  rcases sz with z | z | z | z | z | z
  · obtain rfl := List.eq_nil_of_length_eq_zero z
    refine if_tr rfl ?_
    refine ⟨_, rfl, (by show 0 ≤ sizeLine; decide), fun p hp => ⟨.tuple [], .tuple [], .tup (SqT.of (same_new hp _ _ _ hq)) .nil, .tup (SqT.of upd_same) .nil, rfl, rfl, _, rfl, if_tr rfl ?_⟩⟩
    have s1 := same_new hp (.tup [])
    exact ⟨_, rfl, fin_ans (strOr_same hv s1) (strsOr_same hys s1) few (A.same s1)⟩
  · obtain ⟨x, rfl⟩ := List.length_eq_one_iff.mp z
    obtain ⟨y, rfl⟩ := List.length_eq_one_iff.mp ylen
    have hxy := hys.2 0 x y rfl rfl
    cases y with
    | none => exact absurd rfl (two (by show 1 < 2; decide) _ (List.mem_singleton.mpr rfl))
    | some t =>
      obtain ⟨rfl, t1, t2⟩ := id hxy
      refine if_tr rfl ?_
      refine ⟨_, rfl, (by show 0 ≤ sizeLine; decide), fun p hp => ⟨.tuple [.str t], .tuple [], .tup (SqT.of (same_new hp _ _ _ hq)) (.cons (.str t) .nil), .tup (SqT.of upd_same) .nil, tup_shaped t2, rfl, _, rfl, if_fl rfl ?_⟩⟩
      have s1 := same_new hp (.tup [])
      exact ⟨_, rfl, _, rfl, q, _, _, _, rfl, rfl, SqT.of (s1 _ _ hq), atI_nat (j := 0) rfl, fin_ans (strOr_same hv s1) (strsOr_same hys s1) few (A.same s1)⟩
  · obtain ⟨x0, x1, rfl⟩ := two_ z
    refine if_fl rfl ?_
    refine ⟨_, rfl, q, _, rfl, .inr (SqT.of hq), _, _, rfl, rfl, _, rfl, if_tr rfl ?_⟩
    refine ⟨_, rfl, q, _, rfl, .inr (SqT.of hq), rfl, _, rfl, if_tr (decide_eq_true rfl) ?_⟩
    exact ⟨_, rfl, _, rfl, q, _, _, _, rfl, rfl, SqT.of hq, atI_nat (j := 0) rfl, _, rfl, q, _, _, _, rfl, rfl, SqT.of hq, atI_nat (j := 1) rfl, A0⟩
  · obtain ⟨x0, x1, x2, rfl⟩ := three_ z
    refine if_fl rfl ?_
    refine ⟨_, rfl, q, _, rfl, .inr (SqT.of hq), _, _, rfl, rfl, _, rfl, if_tr rfl ?_⟩
    refine ⟨_, rfl, q, _, rfl, .inr (SqT.of hq), rfl, _, rfl, if_fl (decide_eq_false fun z => absurd (V.int.inj z) (by show ¬ ((3 : Nat) : Int) = 2; decide)) ?_⟩
    exact ⟨_, rfl, _, rfl, q, _, _, _, rfl, rfl, SqT.of hq, atI_nat (j := 0) rfl, _, rfl, q, _, _, _, rfl, rfl, SqT.of hq, atI_nat (j := 1) rfl, _, rfl, q, _, _, _, rfl, rfl, SqT.of hq, atI_nat (j := 2) rfl, A0⟩
  · obtain ⟨x0, x1, x2, x3, x4, x5, rfl⟩ := six_ z
    refine if_fl rfl ?_
    refine ⟨_, rfl, q, _, rfl, .inr (SqT.of hq), _, _, rfl, rfl, _, rfl, if_fl rfl ?_⟩
    refine ⟨_, rfl, 6, rfl, q, _, rfl, SqT.of hq, (fun _ => ?_), (fun h => absurd ⟨rfl, rfl⟩ h)⟩
    refine ⟨q, _, rfl, SqT.of hq, rfl, _, _, rfl, _, _, rfl, _, _, rfl, _, _, rfl, _, _, rfl, _, _, rfl, rfl, ?_⟩
    refine ⟨_, rfl, q, _, rfl, .inr (SqT.of hq), rfl, _, rfl, if_tr (decide_eq_true rfl) ?_⟩
    exact ⟨_, rfl, _, rfl, _, rfl, _, rfl, _, rfl, _, rfl, _, rfl, A0⟩
  · obtain ⟨x0, x1, x2, x3, x4, x5, x6, x7, x8, x9, x10, x11, rfl⟩ := twelve_ z
    refine if_fl rfl ?_
    refine ⟨_, rfl, q, _, rfl, .inr (SqT.of hq), _, _, rfl, rfl, _, rfl, if_fl rfl ?_⟩
    refine ⟨_, rfl, 6, rfl, q, _, rfl, SqT.of hq, (fun h => absurd (show HT.sIx 12 12 (some 6) = 12 from h.2) (by decide)), (fun _ p hp => ?_)⟩
    refine ⟨p, _, rfl, SqT.of upd_same, rfl, _, _, rfl, _, _, rfl, _, _, rfl, _, _, rfl, _, _, rfl, _, _, rfl, rfl, ?_⟩
    have s1 := same_new hp (.tup (cutV [x0, x1, x2, x3, x4, x5, x6, x7, x8, x9, x10, x11] none (some 6)))
    have hqx := s1 _ _ hq
    refine ⟨_, rfl, q, _, rfl, .inr (SqT.of hqx), rfl, _, rfl, if_fl (decide_eq_false fun z => absurd (V.int.inj z) (by show ¬ ((12 : Nat) : Int) = 6; decide)) ?_⟩
    exact ⟨_, rfl, _, rfl, _, rfl, _, rfl, _, rfl, _, rfl, _, rfl, _, rfl, q, _, _, _, rfl, rfl, SqT.of hqx, atI_nat (j := 6) rfl, _, rfl, q, _, _, _, rfl, rfl, SqT.of hqx, atI_nat (j := 7) rfl, _, rfl, q, _, _, _, rfl, rfl, SqT.of hqx, atI_nat (j := 8) rfl, _, rfl, q, _, _, _, rfl, rfl, SqT.of hqx, atI_nat (j := 9) rfl, _, rfl, q, _, _, _, rfl, rfl, SqT.of hqx, atI_nat (j := 10) rfl, _, rfl, q, _, _, _, rfl, rfl, SqT.of hqx, atI_nat (j := 11) rfl, fin_ans (strOr_same hv s1) (strsOr_same hys s1) few (A.same s1)⟩
end
end Vf

set_option Elab.async false
set_option linter.all false
set_option maxRecDepth 100000
set_option maxHeartbeats 4000000
namespace L2
open PySem PySem.Spec PyProof.Rows
/-! ### several clauses, each with a name: except C as n -/
abbrev NmTs := Value × Nat × (Addr → Value → Option Addr → TS)
def wNm (K : PySem.W.Frag) (Wout : WX) (D : Ends) : List NmTs → WX
  | [] => Wout
  | (c, i, ts) :: r => fun cls d σ H => ∃ b, PySem.W.exmOne K cls c = some b ∧
    (b = true → ∀ a, H a = none → ts a cls d { nx := fun σ' H' => D.nx (σ'.set i none) H', rt := D.rt, bk := fun σ' H' => D.bk (σ'.set i none) H', ct := fun σ' H' => D.ct (σ'.set i none) H' } (σ.set i (some (.ref a))) H) ∧ (b = false → wNm K Wout D r cls d σ H)
inductive HdsNm (X : Cx) : List ExceptHandler → List NmTs → Prop
  | nil : HdsNm X [] []
  | cons {x n : Str} {c : Value} {i : Nat} {ts : Addr → Value → Option Addr → TS} {b₀ : Stmt} {suite : List Stmt} {np pos' : Pos} {hds : List ExceptHandler} {l : List NmTs} (hi : X.N[i]? = some n) (hln : X.env.kindOf n = some .local) (hc : Names X x c)
      (hsu : ∀ (a : Addr) (oe : Obj) (cls : Value) (d : Option Addr) (pn : List (Addr × Obj)), Zc cls d oe → (∃ vs, oe.data = .fields vs) → PSs (X.suite a ((a, oe) :: pn)) (b₀ :: suite) (ts a cls d)) (r : HdsNm X hds l) :
      HdsNm X (.ExceptHandler (some (.Name x np)) (some n) (b₀ :: suite) pos' :: hds) ((c, i, ts) :: l)
section
variable {X : Cx} {body : List Stmt} {h₀ : ExceptHandler} {hds : List ExceptHandler} {l : List NmTs} {pos : Pos} {tb : WX → TS} {Wout : WX}
theorem ps_try_nm (hs : X.stack = X.env :: X.outer) (hf : X.env.frame = some X.env.locals) (hN : X.N.Nodup) (tk : Takes X Wout)
    (hb : ∀ (W : WX) (pn : List (Addr × Obj)) (xe : Value → Shared → Prop), Takes (X.tr pn xe) W → PassesOwn (model X.prog X.w) X.A X.env xe → PSs (X.tr pn xe) body (tb W))
    (hh : HdsNm X (h₀ :: hds) l) : PS X (.Try body (h₀ :: hds) [] [] pos) (fun D σ H => tb (wNm X.K Wout D l) D σ H) := by
  refine ⟨fun pins s σ H D I h => ?_⟩
  have ok := I.ok
  have hfr : X.A.frames = some (X.env :: X.outer) := by rw [ok.frames, hs]
  refine wpAny_Try_except ?_
  refine wpAny_mono ((hb (wNm X.K Wout D l) (X.pn ++ pins) (fun e s₁ => wpAny (model X.prog X.w) X.A (noteFrame e X.env) (fun _ s₂ => wpAny (model X.prog X.w) X.A (setFlight e none) (fun _ s₃ =>
    wpAny (model X.prog X.w) X.A (handleBy e X.env (h₀ :: hds)) (SP X pins D) X.xe s₃) X.xe s₂) X.xe s₁) (fun u s' xx => ?_) PassesOwn.looking).run [] s σ H D (I.toTry _) h) (fun f s1 hsp => ?_) (fun e s1 he => he)
  · -- the catch
    obtain ⟨a, B, sI, pins', σ', H', cls, d, rfl, J', nb, up, sky, na, os, ag, w⟩ := xx
    have J : Inv X pins σ' H' sI := J'.ofTry ok
    have sky' : Sky B (X.env :: X.outer) a (Zc cls d) X.env.locals s'.heap := by rw [← hs]; exact sky
    show wpAny (model X.prog X.w) X.A (noteFrame (.ref a) X.env) _ _ _
    refine Sky.land Zc.steady hfr hf sky' fun h3 fl3 up3 => ?_
    have J3 : Inv X pins σ' H' { s' with heap := h3 } := J.landed nb fl3.1 (up.trans up3) os ag
    obtain ⟨oe3, vs3, he3, hz3, hd3⟩ := fl3.there
    have notFr : ∀ {h : Heap} {o : Obj} {vs : Array Value}, h.FunFrames B (X.env :: X.outer) → h.get? a = some o → o.data = .fields vs → a ∉ frs (X.env :: X.outer) := fun {h o vs} ff e dd hm => by
      obtain ⟨_, o', e', hnf⟩ := ff.mem hm
      rw [e] at e'; cases e'
      exact hnf _ dd
    have nfr := notFr fl3.2.2.1 he3 hd3
    have nL : a ≠ X.env.locals := fun z => nfr (List.mem_filterMap.mpr ⟨X.env, List.mem_cons_self, by rw [hf, z]⟩)
    have nF : a ∉ X.fs := fun hm => by
      obtain ⟨e, he, q⟩ := List.mem_filterMap.mp hm
      exact nfr (List.mem_filterMap.mpr ⟨e, List.mem_cons_of_mem _ he, q⟩)
    have S3 := J3.suite he3 hd3 na nL nF
    have go : ∀ {hds' : List ExceptHandler} {l' : List NmTs}, HdsNm X hds' l' → wNm X.K Wout D l' cls d σ' H' →
        wpAny (model X.prog X.w) X.A (handleBy (.ref a) X.env hds') (SP X pins D) X.xe { s' with heap := h3 } := by
      intro hds' l' hk
      induction hk with
      | nil =>
        intro w
        refine wpAny_handleBy_nil ?_
        obtain ⟨k1, k2, k3, oe, vs, T, oT, ts', he, hz, hd, h1, hr⟩ := id fl3
        unfold PySem.passOn
        refine wpAny_bind (wpAny_field he hd h1 ?_)
        rw [if_neg (show ¬ ((Value.ref T == Value.none) = true) from by simp)]
        have fin : wpAny (model X.prog X.w) X.A (setFlight (.ref a) X.env.frame) (fun _ s4 => wpAny (model X.prog X.w) X.A (throw (.ref a) : Sem Flow) (SP X pins D) X.xe s4) X.xe { s' with heap := h3 } := by
          rw [hf]
          refine HandSPX.setFlight_upZ fl3 fun h4 hh4 up4 => wpAny_throw (tk _ _ ?_)
          exact ⟨a, B, sI, pins, σ', H', cls, d, rfl, J, nb, (up.trans up3).trans up4, .inr (.inr (by rw [hs]; exact hh4)), na, os, ag, w⟩
        first
          | exact wpAny_bind (wpAny_pure (wpAny_bind fin))
          | exact wpAny_bind fin
      | @cons x n c i ts b₀ suite np pos' hds2 l2 hi hln hc hsu r ih =>
        intro w
        obtain ⟨b, hb1, hyes, hno⟩ := w
        have hloc : Loc X.env.scope n := .inl hln
        refine wpAny_handleBy_cons (codeAny_handlers_test ?_) (by intro q; cases q)
        have LT : PySem.W.Looks (model X.prog X.w) h3 (typeOf (.ref a)) cls := fun A Q E s k q => wpAny_typeOf_ref (k _ _ he3) (by rw [hz3.1]; exact q)
        have LM := PySem.W.exm_one (M := model X.prog X.w) (J3.kIn) LT hb1
        have test : ∀ {Q : Value → Shared → Prop} {E : Value → Shared → Prop}, Q c { s' with heap := h3 } → wpAny (model X.prog X.w) (X.A.mark (some (.ref a))) (eval (.Name x np) X.env) Q E { s' with heap := h3 } := fun {Q E} q => by
          obtain ⟨hg, hdbg, hm | ⟨hm, hv, hnn⟩⟩ := hc
          · exact ld_glob (X := X.suite a ((a, oe3) :: (X.pn ++ pins))) S3 hg hm q hdbg
          · exact ld_blt (X := X.suite a ((a, oe3) :: (X.pn ++ pins))) S3 hg hm hv q hnn hdbg
        refine test (LM.here ?_)
        cases b with
        | true =>
          refine codeAny_handlers_suite_as ?_
          refine HandSPX.lands_againZ fl3 fun h4 fl4 up4 => ?_
          have J4 : Inv X pins σ' H' { s' with heap := h4 } := J.landed nb fl4.1 ((up.trans up3).trans up4) os ag
          obtain ⟨oe4, vs4, he4, hz4, hd4⟩ := fl4.there
          have S4 := J4.suite he4 hd4 na nL nF
          refine store_ok (X := X.suite a ((a, oe4) :: (X.pn ++ pins))) (v := .ref a) S4 hN hi hloc rfl (fun s5 S5 => ?_) (.inr hln)
          refine wpAny_mono ((hsu a oe4 cls d (X.pn ++ pins) hz4 ⟨_, hd4⟩).run [] s5 _ H' _ S5 (hyes rfl a na)) (fun f s6 hsp => ?_) (fun _ _ z => False.elim z)
          have end_ : ∀ {σ6 : St} {H6 : Hp} {Q : Shared → Prop}, Inv (X.suite a ((a, oe4) :: (X.pn ++ pins))) [] σ6 H6 s6 → (∀ s7, Inv X pins (σ6.set i none) H6 s7 → Q s7) →
              wpAny (model X.prog X.w) X.A (do bindName X.env n .none; unbindBehindTheSuite X.env n pos') (fun _ s7 => Q s7) X.xe s6 := fun {σ6 H6 Q} S6 hq => gone_ok (S6.unsuite ok) hN hi hln hq
          cases f with
          | next =>
            obtain ⟨σ6, H6, S6, q6⟩ := hsp
            exact end_ S6 fun s7 J7 => ⟨_, _, J7, q6⟩
          | brk =>
            obtain ⟨σ6, H6, S6, q6⟩ := hsp
            exact end_ S6 fun s7 J7 => ⟨_, _, J7, q6⟩
          | cont =>
            obtain ⟨σ6, H6, S6, q6⟩ := hsp
            exact end_ S6 fun s7 J7 => ⟨_, _, J7, q6⟩
          | ret u =>
            obtain ⟨v6, σ6, H6, S6, r6, q6⟩ := hsp
            exact end_ S6 fun s7 J7 => ⟨_, _, _, J7, r6, q6⟩
        | false =>
          show wpAny _ X.A (handleBy (.ref a) X.env hds2) _ _ _
          exact ih (hno rfl)
    exact go hh w
  · cases f with
    | next =>
      obtain ⟨σ', H', J', q⟩ := hsp
      exact wpAny_execs_nil ⟨σ', H', J'.ofTry ok, q⟩
    | brk =>
      obtain ⟨σ', H', J', q⟩ := hsp
      exact ⟨σ', H', J'.ofTry ok, q⟩
    | cont =>
      obtain ⟨σ', H', J', q⟩ := hsp
      exact ⟨σ', H', J'.ofTry ok, q⟩
    | ret u =>
      obtain ⟨v, σ', H', J', r, q⟩ := hsp
      exact ⟨v, σ', H', J'.ofTry ok, r, q⟩
end
/-! ### C(..) and o[i] within a try: what is raised is wished for at the slots as they stand -/
section
variable {X : Cx} {CX : CXT} {k : Nat} {f C : Addr} {fd : FuncData} {ps : List Str} {sp : Sp} {E : St → XK} {x : Str} {p pos : Pos} {e : Expr} {es : List Expr} {t : TA} {dvs : List V} {ds : List Value}
def tMakeAt (C : Addr) (sp : Sp) (dvs : List V) (E : St → XK) (t : TA) : TE := fun σ H Q => tMake C sp dvs (E σ) t σ H Q
theorem pe_makeAt (M : Mk X.K C f) (F : FnOk X.prog X.w X.K X.mg X.base CX k f fd ps sp) (hr : Room (k + 1) X.A) (hg : Gl X x) (hm : X.mg x = some (.ref C)) (hb : Binds X.K fd ps ds) (hd : Vals dvs ds) (hx : ∀ σ, PassesAt CX X σ (E σ))
    (ha : PA X (e :: es) t) (hdb : (x == ("__debug__" : Str)) = false := by decide) (he : starEach (e :: es) X.env = (false, eval e X.env) :: starEach es X.env := by rfl) (hpl : (backTo pos (starEach es X.env)).any (·.1) = false := by rfl) :
    PE X (.Call (.Name x p) (e :: es) [] pos) (tMakeAt C sp dvs E t) := by
  refine ⟨fun pins s σ H Q I h => ?_⟩
  refine wpAny_Call_Name_kw (ld_glob I hg hm ?_ hdb)
  refine PySem.W.callWith_K (h₀ := X.base) I.ok.mod.kin M.kp (thn (ha.run pos pins s σ H _ I h) fun us s1 ⟨vs, H1, I1, r, q⟩ => ⟨I1.kIn, ?_⟩) he hpl
  have hq := q (s1.heap.objs.size + 1) s1.heap.objs.size (I1.hok.fresh (Nat.le_succ _)) (I1.hok.fresh (Nat.le_refl _)) (Nat.ne_of_lt (Nat.lt_succ_self _))
  have I2 := Inv.made (C := C) I1
  have r2 : Vals (V.ref (s1.heap.objs.size + 1) :: (vs ++ dvs)) (Value.ref (s1.heap.objs.size + 1) :: (us ++ ds)) := .cons rfl (r.append hd)
  have hl : (Value.ref (s1.heap.objs.size + 1) :: us ++ ds).length = ps.length := by
    have e := r2.length
    rw [F.len _ _ _ _ hq] at e
    exact e.symm
  refine wpAny_call (make_map (f := f) I1.kIn M.makes M.init (beq_iff_eq.mp M.fn) (codeAny_mono (F.run _ X.stack _ _ ⟨Value.ref (s1.heap.objs.size + 1) :: us, []⟩ (Value.ref (s1.heap.objs.size + 1) :: (us ++ ds)) _ _ (E σ) (hr.make C us [])
    (I2.env0.make C us []) (hb _ (Value.ref (s1.heap.objs.size + 1) :: us) I2.kIn hl) r2 hq) fun r s' hq' => ?_))
  cases r with
  | error e => exact hx σ pins _ _ e s' I2 hq'
  | ok fl =>
    cases fl with
    | ret u =>
      obtain ⟨v, H', I3, rv, ev, q3⟩ := I2.after hq'
      subst ev
      exact ⟨rv, ⟨V.ref (s1.heap.objs.size + 1), H', I3, rfl, q3⟩⟩
    | next => exact False.elim hq'
    | brk => exact False.elim hq'
    | cont => exact False.elim hq'
theorem run_in1S {pins : List (Addr × Obj)} {σ : St} {H : Hp} {s : Shared} {Q : VK} {us : List Value} {vs : List V} (F : FnOk X.prog X.w X.K X.mg X.base CX k f fd ps sp) (hr : Room (k + 1) X.A) (hb : Binds X.K fd ps ds) (hd : Vals dvs ds) (hx : PassesAt CX X σ (E σ))
    (I : Inv X pins σ H s) (r : Vals vs us) (h : sp (vs ++ dvs) H Q (E σ)) : wpAny (model X.prog X.w) X.A.in1 (call (.ref f) us) (EP X pins σ Q) X.xe s := by
  have r2 : Vals (vs ++ dvs) (us ++ ds) := r.append hd
  have hl : (us ++ ds).length = ps.length := by rw [← r2.length]; exact F.len _ _ _ _ h
  refine wpAny_call (codeAny_mono (F.run X.A.in1 X.stack s H ⟨us, []⟩ (us ++ ds) (vs ++ dvs) Q (E σ) hr.in1 I.env0.in1 (hb s us I.kIn hl) r2 h) fun r s' hq => ?_)
  cases r with
  | error e => exact hx pins H s e s' I hq
  | ok fl =>
    cases fl with
    | ret u => exact I.after hq
    | next => exact False.elim hq
    | brk => exact False.elim hq
    | cont => exact False.elim hq
def tIxAt (C : Addr) (sp : Sp) (dvs : List V) (E : St → XK) (ta tb : TE) : TE := fun σ H Q => tOp (rIxO C sp dvs (E σ)) ta tb σ H Q
theorem pe_ixOAt {a b : Expr} {ta tb : TE} (hm : Meth X.K C "__getitem__" f) (hf : PySem.W.fnIn X.K f = true) (F : FnOk X.prog X.w X.K X.mg X.base CX k f fd ps sp) (hr : Room (k + 1) X.A) (hb : Binds X.K fd ps ds) (hd : Vals dvs ds) (hx : ∀ σ, PassesAt CX X σ (E σ))
    (ha : PE X a ta) (hi : PE X b tb) (hs : ∀ v u, subscripted b true v u = runValue (.builtin "lifetime.subscript" ⟨[v, u], []⟩)) : PE X (.Subscript a b pos) (tIxAt C sp dvs E ta tb) := by
  refine ⟨fun pins s σ H Q I h => ?_⟩
  refine Subscript_ (binT ha hi I h fun v u s2 x y H2 I2 rx ry q => ?_)
  obtain ⟨p, dx, fs, rfl, ea, q⟩ := q
  obtain rfl : v = Value.ref p := rx
  obtain ⟨mA, O, _, _, _, _⟩ := ins_get I2.hok ea
  obtain ⟨od, J, _⟩ := O.look
  have go := run_in1S (us := [.ref p, u]) (vs := [.ref p, y]) F hr hb hd (hx σ) I2 (.cons rfl (.cons ry .nil)) q
  unfold PySem.W.fnIn at hf
  split at hf
  · rename_i e
    unfold subscriptTail getitemInPython
    refine wpAny_bind (wpAny_bind (wpAny_bind (J.type.here ((PySem.W.looks_findIn I2.kIn hm.at_).here ?_))))
    dsimp only
    refine wpAny_bind (wpAny_load (I2.kIn _ _ e) (wpAny_pure ?_))
    dsimp only
    rw [hs]
    refine wpAny_bind (wpAny_runValue (codeAny_builtin PySem.W.entry_sub ?_))
    unfold Builtin.«lifetime.subscript»
    refine wpAny_bind (PySem.W.special_fn I2.kIn J hm.at_ (beq_iff_eq.mp hm.fn) (wpAny_mono go (fun v s' z => ?_) fun _ _ z => z))
    refine wpAny_pure ?_
    show wpAny (model X.prog X.w) X.A (letTemporaryGo a (.ref p) v >>= fun _ => pure v) _ X.xe s'
    exact wpAny_bind (wpAny_letTemporaryGo (wpAny_pure z))
  · cases hf
end
end L2
namespace L2
namespace Vx
open PySem PySem.Spec PyProof.Rows _root_.Vx
/-! ### isinstance(e, c), e the error that the suite holds, with its attributes -/
section
variable {X : Cx} {a : Addr} {oe : Obj} {cls : Value} {d : Option Addr} {pn : List (Addr × Obj)}
def rIsPd (K : PySem.W.Frag) (a : Addr) (cls : Value) (d : Option Addr) : List V → Hp → VK → Prop := fun xs H Q => ∃ (D dd : Addr) (fs : List (Str × V)) (c : V) (cv : Value) (b : Bool), xs = [.ref a, c] ∧ cls = .ref D ∧ OexE K D ∧ d = some dd ∧ H dd = some (.xd fs) ∧ ClsV c cv ∧ PySem.W.kitOne K (.ref D) cv = some b ∧ Q (.bl b) H
theorem call_isPd (hz : Zc cls d oe) (hf : ∃ vs, oe.data = .fields vs) : CallR (X.suite a ((a, oe) :: pn)) (.builtin "isinstance") (rIsPd X.K a cls d) := by
  intro pins s σ H xs us Q I r h
  obtain ⟨D, dd, fs, c, cv, b, rfl, ec, T, ed, ea, k, e, q⟩ := h
  subst ec
  subst ed
  obtain ⟨u1, u2, rfl, r1, r2⟩ := vals2 r
  have e2 := k.eq r2
  subst e2
  cases (show u1 = Value.ref a from r1)
  have hcl : (PySem.W.clsIn X.K D).isSome = true := by
    obtain ⟨cd, hc, _⟩ := PySem.W.any_some T.hdC
    rw [hc] <;> rfl
  obtain ⟨hget, _⟩ := I.pin (a, oe) (List.mem_append_left _ List.mem_cons_self)
  obtain ⟨vs, hv⟩ := hf
  have hx : ObjOk X.prog X.w H s.heap dd (.xd fs) := I.hok dd _ ea
  obtain ⟨mA, hns, hr⟩ := hx
  obtain ⟨od, ho, hl⟩ := lookIn_ns hns
  have J : PySem.W.InstAt s.heap a oe D (some od) := ⟨hget, hz.1, by unfold PySem.W.notCls; rw [hv] <;> rfl, by rw [hz.2]; exact ho⟩
  exact PySem.W.kia_one (PySem.W.kitx_exc hcl T.ga T.gg T.exC T.ca T.cn T.ct T.cm) I.kIn J e (fun z => nomatch z) fun tk => ⟨.bl b, H, I.tok tk, rfl, q⟩
theorem OexE.xf {K : PySem.W.Frag} {C : Addr} (T : OexE K C) : XfC K C := ⟨T.ga, T.gg, T.exC, T.hdC⟩
end
end Vx
end L2

set_option Elab.async false
set_option linter.all false
set_option maxRecDepth 100000
set_option maxHeartbeats 4000000
namespace Vf
open PySem PySem.Spec PyProof.Rows L2 L2.Vx Vs Vm Vd Mk
/-! ### plans made, heard -/
abbrev sMa : Stmt := top 68
abbrev sHe : Stmt := top 69
abbrev nMa : List Str := ["_law_signs_here", "_law_plan_here", "_law_by_name"]
abbrev nHe : List Str := ["_law_signs_here", "_law_plan_here", "_law_by_name", "_law_found", "_law_e"]
def FitP : GPlan → Prop
  | .fin tvs ys => SizesT tvs.length ∧ FewT ys ∧ (tvs.length < 2 → ∀ y ∈ ys, y ≠ none)
  | .hav _ yt n => ∀ p, yt = some p → (n + 1) * (p.length + 1) ≤ 900
  | .beg _ yt => ∀ p, yt = some p → p.length ≤ 200
  | .ends _ yt => ∀ p, yt = some p → p.length ≤ 200
  | .len per _ => 0 < per ∧ per ≤ 200
section
variable {K : PySem.W.Frag} {C CB CT : Addr} {v tv : V} {yl yt : Option Str} {H : Hp} {Q : VK} {E : XK}
theorem hav_ans {n : Nat} (hv : StrOr K H v yl) (ht : StrOr K H tv yt) (fit : ∀ p, yt = some p → (n + 1) * (p.length + 1) ≤ 900) (A : Ans C CB CT yl (.hav tv yt n) H Q E) : spHv K C CB CT [v, tv, nI n] H Q E := by
  refine ⟨v, tv, n, yl, yt, rfl, hv, ht, fit, A.letters, fun a e c => ⟨fun c2 => A.text a e c tv ?_, fun e2 => A.text a e c tv ?_, fun p e2 wb ne q R eR H' s L W k => A.made a e c ?_ q R eR H' s L (fun w hw => ?_) k⟩⟩
  · show (if okT a yt = true ∧ yt ≠ some "" then none else some tv) = some tv
    rw [if_neg (by rw [c2]; exact fun z => nomatch z.1)]
  · show (if okT a yt = true ∧ yt ≠ some "" then none else some tv) = some tv
    rw [if_neg (fun z => z.2 e2)]
  · subst e2
    show (if okT a (some p) = true ∧ some p ≠ some "" then none else some tv) = none
    rw [if_pos ⟨wb, fun z => ne (Option.some.inj z)⟩]
  · subst e2
    exact W w hw
theorem beg_ans (hv : StrOr K H v yl) (ht : StrOr K H tv yt) (fit : ∀ p, yt = some p → p.length ≤ 200) (A : Ans C CB CT yl (.beg tv yt) H Q E) : spOne K C CB CT (fun p t => p <+: t) [v, tv] H Q E := by
  refine ⟨v, tv, yl, yt, rfl, hv, ht, fit, A.letters, fun a e c => ⟨fun c2 => A.text a e c tv ?_, fun p e2 wb q R eR H' s L W k => A.made a e c ?_ q R eR H' s L (fun w hw => ?_) k⟩⟩
  · show (if okT a yt = true then none else some tv) = some tv
    rw [if_neg (by rw [c2]; decide)]
  · subst e2
    show (if okT a (some p) = true then none else some tv) = none
    rw [if_pos (show okT a (some p) = true from wb)]
  · subst e2
    exact W w hw
theorem ends_ans (hv : StrOr K H v yl) (ht : StrOr K H tv yt) (fit : ∀ p, yt = some p → p.length ≤ 200) (A : Ans C CB CT yl (.ends tv yt) H Q E) : spOne K C CB CT (fun p t => p <:+ t) [v, tv] H Q E := by
  refine ⟨v, tv, yl, yt, rfl, hv, ht, fit, A.letters, fun a e c => ⟨fun c2 => A.text a e c tv ?_, fun p e2 wb q R eR H' s L W k => A.made a e c ?_ q R eR H' s L (fun w hw => ?_) k⟩⟩
  · show (if okT a yt = true then none else some tv) = some tv
    rw [if_neg (by rw [c2]; decide)]
  · subst e2
    show (if okT a (some p) = true then none else some tv) = none
    rw [if_pos (show okT a (some p) = true from wb)]
  · subst e2
    exact W w hw
end
theorem kb_bg {K : PySem.W.Frag} {f : Addr} {fd : FuncData} (F : Fun K "beginning" "beginning" sBg f fd) : KBinds K fd ["letters", "text"] ["text", "letters"] gRev gRev := by
  obtain ⟨oc, od, kV, doc, pm, an, cdv, ct, osl, rfl, lk, hcd⟩ := F.ex
  refine ⟨fun s us ws _ hl => ?_, fun r1 r2 => gRev_vals r1 r2⟩
  match us, ws, hl with
  | [], [_, _], _ => exact .of_eq rfl
  | [], [], hl => exact absurd hl (by decide)
  | [], [_], hl => exact absurd hl (by simp [gRev])
  | [], _ :: _ :: _ :: _, hl => exact absurd hl (by simp [gRev])
  | _ :: _, _, hl => exact absurd hl (by simp [gRev])
theorem kb_eg {K : PySem.W.Frag} {f : Addr} {fd : FuncData} (F : Fun K "ending" "ending" sEg f fd) : KBinds K fd ["letters", "text"] ["text", "letters"] gRev gRev := by
  obtain ⟨oc, od, kV, doc, pm, an, cdv, ct, osl, rfl, lk, hcd⟩ := F.ex
  refine ⟨fun s us ws _ hl => ?_, fun r1 r2 => gRev_vals r1 r2⟩
  match us, ws, hl with
  | [], [_, _], _ => exact .of_eq rfl
  | [], [], hl => exact absurd hl (by decide)
  | [], [_], hl => exact absurd hl (by simp [gRev])
  | [], _ :: _ :: _ :: _, hl => exact absurd hl (by simp [gRev])
  | _ :: _, _, hl => exact absurd hl (by simp [gRev])
theorem kb_ls {K : PySem.W.Frag} {f : Addr} {fd : FuncData} (F : Fun K "lengths" "lengths" sLs f fd) : KBinds K fd ["letters", "period", "rests"] ["rests", "period", "letters"] gRev gRev := by
  obtain ⟨oc, od, kV, doc, pm, an, cdv, ct, osl, rfl, lk, hcd⟩ := F.ex
  refine ⟨fun s us ws _ hl => ?_, fun r1 r2 => gRev_vals r1 r2⟩
  match us, ws, hl with
  | [], [_, _, _], _ => exact .of_eq rfl
  | [], [], hl => exact absurd hl (by decide)
  | [], [_], hl => exact absurd hl (by simp [gRev])
  | [], [_, _], hl => exact absurd hl (by simp [gRev])
  | [], _ :: _ :: _ :: _ :: _, hl => exact absurd hl (by simp [gRev])
  | _ :: _, _, hl => exact absurd hl (by simp [gRev])
abbrev FHv (K : PySem.W.Frag) (f : Addr) (fd : FuncData) : Prop := FunD K "having" "having" (defArgs sHv) (defBody sHv) (defScope sHv) [.int 1] [] f fd
theorem hv_b3 {K : PySem.W.Frag} {f : Addr} {fd : FuncData} (F : FHv K f fd) : L2.Binds K fd ["letters", "piece", "least"] [] := by
  obtain ⟨ds, r, b⟩ := F.binds1 (ps := ["letters", "piece", "least"]) 3 1 (by intro z; cases z) rfl (fun T kV doc pm an cdv ct us its h1 h2 => match us, its, h1, h2 with | [_, _, _], [_], _, _ => ⟨_, rfl, rfl⟩)
  cases r
  exact b
theorem hv_b2 {K : PySem.W.Frag} {f : Addr} {fd : FuncData} (F : FHv K f fd) : ∃ ds, Vals [.int 1] ds ∧ L2.Binds K fd ["letters", "piece", "least"] ds :=
  F.binds1 (ps := ["letters", "piece", "least"]) 2 0 (by intro z; cases z) rfl (fun T kV doc pm an cdv ct us its h1 h2 => match us, its, h1, h2 with | [_, _], [_], _, _ => ⟨_, rfl, rfl⟩)
theorem kb_hv {K : PySem.W.Frag} {f : Addr} {fd : FuncData} (F : FHv K f fd) : KBinds K fd ["letters", "piece", "least"] ["least", "piece", "letters"] gRev gRev := by
  obtain ⟨its, h⟩ := F.kbindsD (ps := ["letters", "piece", "least"]) 0 ["least", "piece", "letters"] (fun us _ ws => gRev us ws) (by intro z; cases z) (fun r1 r2 r3 => gRev_vals r1 r3) (fun T kV doc pm an cdv ct us its ws h1 h2 h3 => match us, its, ws, h1, h2, h3 with | [], [_], [_, _, _], _, _, _ => ⟨_, rfl, rfl⟩)
  refine ⟨fun s us ws X hl => ?_, fun r1 r2 => gRev_vals r1 r2⟩
  match us, ws, hl with
  | [], ws, hl => exact h.1 s [] ws X rfl (by rw [← List.length_reverse]; exact hl)
  | _ :: _, _, hl => exact absurd hl (by simp [gRev])
def spMa (K : PySem.W.Frag) (C CB CT : Addr) : Sp := fun vs H Q E => ∃ (v : V) (p : Addr) (yl : Option Str) (gp : GPlan) (b : Bool), vs = [v, .ref p, .bl b] ∧ StrOr K H v yl ∧ PlanAt K H p gp ∧ FitP gp ∧ Ans C CB CT yl gp H Q E
/-- what is heard of a plan -/
structure HAns (C : Addr) (yl : Option Str) (gp : GPlan) (H : Hp) (Q : VK) : Prop where
  letters : okL yl = false → ∀ (t : Addr) H', Same H H' → H' t = some (.tup [.str "language", .str "letters"]) → Q (.ref t) H'
  text : ∀ a, yl = some a → letB a = true → ∀ x, badV a gp = some x → ∀ (t : Addr) H', Same H H' → H' t = some (.tup [.str "text", x]) → Q (.ref t) H'
  made : ∀ a, yl = some a → letB a = true → badV a gp = none → ∀ (q : Addr) (R : List (List Nat)) (eR : List Nat) H', Same H H' → LG C H' q a R eR → (∀ w : List Nat, (∀ i ∈ w, i < a.length) → (Wd R eR w = true ↔ due gp (back (cp a) w))) → R.length ≤ 900 → Q (.ref q) H'
def spHe (K : PySem.W.Frag) (C : Addr) : Sp := fun vs H Q _ => ∃ (v : V) (p : Addr) (yl : Option Str) (gp : GPlan) (b : Bool), vs = [v, .ref p, .bl b] ∧ StrOr K H v yl ∧ PlanAt K H p gp ∧ FitP gp ∧ HAns C yl gp H Q
structure TxtMa (mg : Str → Option Value) (fN fH fB fE fL : Addr) : Prop where
  fin : mg "_law_finite" = some (.ref fN)
  hav : mg "having" = some (.ref fH)
  beg : mg "beginning" = some (.ref fB)
  ends : mg "ending" = some (.ref fE)
  lens : mg "lengths" = some (.ref fL)
section
variable {P : Program} {w : World} {K : PySem.W.Frag} {mg : Str → Option Value} {base : Heap} {C CB CT : Addr}
theorem scMa : FnScope nMa ["_law_signs_here", "_law_plan_here", "_law_by_name"] (defScope sMa) := ⟨rfl, rfl, rfl, by decide +kernel, rfl, by decide +kernel, by decide +kernel⟩
theorem scHe : FnScope nHe ["_law_signs_here", "_law_plan_here", "_law_by_name"] (defScope sHe) := ⟨rfl, rfl, rfl, by decide +kernel, rfl, by decide +kernel, by decide +kernel⟩
theorem ok_ma {f fN fH fB fE fL : Addr} {fd fdN fdH fdB fdE fdL : FuncData} {ds2 : List Value} (F : Fun K "_law_made" "_law_made" sMa f fd) (T : TxtMa mg fN fH fB fE fL)
    (GN : FnOk P w K mg base (L2.CX P w) 8 fN fdN ["_law_signs_here", "_law_lot"] (spFn K C CB CT)) (bN : L2.Binds K fdN ["_law_signs_here", "_law_lot"] []) (kN : PySem.W.keepIn K (.ref fN) = true)
    (GH : FnOk P w K mg base (L2.CX P w) 7 fH fdH ["letters", "piece", "least"] (spHv K C CB CT)) (bH : L2.Binds K fdH ["letters", "piece", "least"] []) (r2 : Vals [.int 1] ds2) (bH2 : L2.Binds K fdH ["letters", "piece", "least"] ds2) (qH : KBinds K fdH ["letters", "piece", "least"] ["least", "piece", "letters"] gRev gRev) (kH : PySem.W.keepIn K (.ref fH) = true)
    (GB : FnOk P w K mg base (L2.CX P w) 7 fB fdB ["letters", "text"] (spOne K C CB CT fun p t => p <+: t)) (bB : L2.Binds K fdB ["letters", "text"] []) (qB : KBinds K fdB ["letters", "text"] ["text", "letters"] gRev gRev) (kB : PySem.W.keepIn K (.ref fB) = true)
    (GE : FnOk P w K mg base (L2.CX P w) 7 fE fdE ["letters", "text"] (spOne K C CB CT fun p t => p <:+ t)) (bE : L2.Binds K fdE ["letters", "text"] []) (qE : KBinds K fdE ["letters", "text"] ["text", "letters"] gRev gRev) (kE : PySem.W.keepIn K (.ref fE) = true)
    (GL : FnOk P w K mg base (L2.CX P w) 7 fL fdL ["letters", "period", "rests"] (spLs K C CB)) (bL : L2.Binds K fdL ["letters", "period", "rests"] []) (qL : KBinds K fdL ["letters", "period", "rests"] ["rests", "period", "letters"] gRev gRev) (kL : PySem.W.keepIn K (.ref fL) = true) :
    FnOk P w K mg base (L2.CX P w) 9 f fd ["_law_signs_here", "_law_plan_here", "_law_by_name"] (spMa K C CB CT) := by
  refine F.okX scMa (fun vs H Q E h => ?_) (fun cdv Ar outer s H vs Q E hr h => ?_)
  · obtain ⟨v, p, yl, gp, b, rfl, _⟩ := h
    rfl
  obtain ⟨v, p, yl, gp, b, rfl, hv, hp, fit, A⟩ := h
  have hr7 : Room 7 _ := hr.mono (by decide)
  refine ⟨_, (pss_cons (ps_if (pt_cmpR op_eq (pe_ix ix_tup (pv 1) pe_int (fun _ _ => rfl)) pe_str (nomark _)) (pss_one (ps_ret (pe_call GN hr rfl T.fin kN bN .nil (passes_call (takes_of rfl rfl rfl rfl) (fun _ _ _ _ h => h)) (pa_cons (pv 0) (pa_cons (pe_ix ix_tup (pv 1) pe_int (fun _ _ => rfl)) pa_nil))))) pss_nil)
    (pss_cons (ps_if (pt_cmpR op_eq (pe_ix ix_tup (pv 1) pe_int (fun _ _ => rfl)) pe_str (nomark _)) (pss_cons (ps_if (PW.pt (pw_and (pt_cmpR op_eq (pe_ix ix_tup (pv 1) pe_int (fun _ _ => rfl)) pe_int (nomark _)) (pw_and1 (pt_not (pt_val (pv 2)))))) (pss_one (ps_ret (pe_call GH hr7 rfl T.hav kH bH2 r2 (passes_call (takes_of rfl rfl rfl rfl) (fun _ _ _ _ h => h)) (pa_cons (pv 0) (pa_cons (pe_ix ix_tup (pv 1) pe_int (fun _ _ => rfl)) pa_nil))))) pss_nil)
    (pss_one (ps_ret (pe_ifExp (pt_val (pv 2)) (pe_callK0 GH hr7 T.hav kH qH (passes_call (takes_of rfl rfl rfl rfl) (fun _ _ _ _ h => h)) (pk_cons (pe_ix ix_tup (pv 1) pe_int (fun _ _ => rfl)) (pk_cons (pe_ix ix_tup (pv 1) pe_int (fun _ _ => rfl)) (pk_cons (pv 0) pk_nil)))) (pe_call GH hr7 rfl T.hav kH bH .nil (passes_call (takes_of rfl rfl rfl rfl) (fun _ _ _ _ h => h)) (pa_cons (pv 0) (pa_cons (pe_ix ix_tup (pv 1) pe_int (fun _ _ => rfl)) (pa_cons (pe_ix ix_tup (pv 1) pe_int (fun _ _ => rfl)) pa_nil)))))))) pss_nil)
    (pss_cons (ps_if (pt_cmpR op_eq (pe_ix ix_tup (pv 1) pe_int (fun _ _ => rfl)) pe_str (nomark _)) (pss_one (ps_ret (pe_ifExp (pt_val (pv 2)) (pe_callK0 GB hr7 T.beg kB qB (passes_call (takes_of rfl rfl rfl rfl) (fun _ _ _ _ h => h)) (pk_cons (pe_ix ix_tup (pv 1) pe_int (fun _ _ => rfl)) (pk_cons (pv 0) pk_nil))) (pe_call GB hr7 rfl T.beg kB bB .nil (passes_call (takes_of rfl rfl rfl rfl) (fun _ _ _ _ h => h)) (pa_cons (pv 0) (pa_cons (pe_ix ix_tup (pv 1) pe_int (fun _ _ => rfl)) pa_nil)))))) pss_nil)
    (pss_cons (ps_if (pt_cmpR op_eq (pe_ix ix_tup (pv 1) pe_int (fun _ _ => rfl)) pe_str (nomark _)) (pss_one (ps_ret (pe_ifExp (pt_val (pv 2)) (pe_callK0 GE hr7 T.ends kE qE (passes_call (takes_of rfl rfl rfl rfl) (fun _ _ _ _ h => h)) (pk_cons (pe_ix ix_tup (pv 1) pe_int (fun _ _ => rfl)) (pk_cons (pv 0) pk_nil))) (pe_call GE hr7 rfl T.ends kE bE .nil (passes_call (takes_of rfl rfl rfl rfl) (fun _ _ _ _ h => h)) (pa_cons (pv 0) (pa_cons (pe_ix ix_tup (pv 1) pe_int (fun _ _ => rfl)) pa_nil)))))) pss_nil)
    (pss_cons (ps_if (pt_val (pv 2)) (pss_one (ps_ret (pe_callK0 GL hr7 T.lens kL qL (passes_call (takes_of rfl rfl rfl rfl) (fun _ _ _ _ h => h)) (pk_cons (pe_ix ix_tup (pv 1) pe_int (fun _ _ => rfl)) (pk_cons (pe_ix ix_tup (pv 1) pe_int (fun _ _ => rfl)) (pk_cons (pv 0) pk_nil)))))) pss_nil)
    (pss_one (ps_ret (pe_call GL hr7 rfl T.lens kL bL .nil (passes_call (takes_of rfl rfl rfl rfl) (fun _ _ _ _ h => h)) (pa_cons (pv 0) (pa_cons (pe_ix ix_tup (pv 1) pe_int (fun _ _ => rfl)) (pa_cons (pe_ix ix_tup (pv 1) pe_int (fun _ _ => rfl)) pa_nil))))))))))), ?_⟩
  have a2_0 : ∀ (x y : V), atI [x, y] 0 = some x := fun x y => atI_nat (j := 0) rfl
  have a2_1 : ∀ (x y : V), atI [x, y] 1 = some y := fun x y => atI_nat (j := 1) rfl
  have a3_0 : ∀ (x y z : V), atI [x, y, z] 0 = some x := fun x y z => atI_nat (j := 0) rfl
  have a3_1 : ∀ (x y z : V), atI [x, y, z] 1 = some y := fun x y z => atI_nat (j := 1) rfl
  have a3_2 : ∀ (x y z : V), atI [x, y, z] 2 = some z := fun x y z => atI_nat (j := 2) rfl
  cases gp with
  | fin tvs ys =>
    obtain ⟨q, h1, h2, h3⟩ := hp
    obtain ⟨f1, f2, f3⟩ := fit
    refine ⟨_, rfl, p, _, _, _, rfl, rfl, SqT.of h1, a2_0 _ _, rfl, _, rfl, if_tr (decide_eq_true rfl) ?_⟩
    exact ⟨_, rfl, _, rfl, p, _, _, _, rfl, rfl, SqT.of h1, a2_1 _ _, v, q, tvs, yl, ys, rfl, h2, hv, h3, f1, f2, f3, A⟩
  | hav tv yt n =>
    obtain ⟨h1, h2⟩ := hp
    refine ⟨_, rfl, p, _, _, _, rfl, rfl, SqT.of h1, a3_0 _ _ _, rfl, _, rfl, if_fl (tag_ne (by decide +kernel)) ?_⟩
    refine ⟨_, rfl, p, _, _, _, rfl, rfl, SqT.of h1, a3_0 _ _ _, rfl, _, rfl, if_tr (decide_eq_true rfl) ?_⟩
    refine ⟨_, rfl, p, _, _, _, rfl, rfl, SqT.of h1, a3_2 _ _ _, rfl, _, rfl, ?_⟩
    by_cases c : n = 1
    · subst c
      refine if_tr (decide_eq_true rfl) ?_
      cases b with
      | false => exact ⟨_, rfl, _, rfl, if_tr rfl ⟨_, rfl, _, rfl, p, _, _, _, rfl, rfl, SqT.of h1, a3_1 _ _ _, hav_ans hv h2 fit A⟩⟩
      | true => exact ⟨_, rfl, _, rfl, if_fl rfl ⟨_, rfl, _, rfl, if_tr rfl ⟨_, rfl, p, _, _, _, rfl, rfl, SqT.of h1, a3_2 _ _ _, _, rfl, p, _, _, _, rfl, rfl, SqT.of h1, a3_1 _ _ _, _, rfl, hav_ans hv h2 fit A⟩⟩⟩
    · refine if_fl (decide_eq_false fun z => c (by have := V.int.inj z; omega)) ?_
      refine if_fl rfl ?_
      cases b with
      | true => exact ⟨_, rfl, _, rfl, if_tr rfl ⟨_, rfl, p, _, _, _, rfl, rfl, SqT.of h1, a3_2 _ _ _, _, rfl, p, _, _, _, rfl, rfl, SqT.of h1, a3_1 _ _ _, _, rfl, hav_ans hv h2 fit A⟩⟩
      | false => exact ⟨_, rfl, _, rfl, if_fl rfl ⟨_, rfl, _, rfl, p, _, _, _, rfl, rfl, SqT.of h1, a3_1 _ _ _, _, rfl, p, _, _, _, rfl, rfl, SqT.of h1, a3_2 _ _ _, hav_ans hv h2 fit A⟩⟩
  | beg tv yt =>
    obtain ⟨h1, h2⟩ := hp
    refine ⟨_, rfl, p, _, _, _, rfl, rfl, SqT.of h1, a2_0 _ _, rfl, _, rfl, if_fl (tag_ne (by decide +kernel)) ?_⟩
    refine ⟨_, rfl, p, _, _, _, rfl, rfl, SqT.of h1, a2_0 _ _, rfl, _, rfl, if_fl (tag_ne (by decide +kernel)) ?_⟩
    refine ⟨_, rfl, p, _, _, _, rfl, rfl, SqT.of h1, a2_0 _ _, rfl, _, rfl, if_tr (decide_eq_true rfl) ?_⟩
    cases b with
    | true => exact ⟨_, rfl, _, rfl, if_tr rfl ⟨_, rfl, p, _, _, _, rfl, rfl, SqT.of h1, a2_1 _ _, _, rfl, beg_ans hv h2 fit A⟩⟩
    | false => exact ⟨_, rfl, _, rfl, if_fl rfl ⟨_, rfl, _, rfl, p, _, _, _, rfl, rfl, SqT.of h1, a2_1 _ _, beg_ans hv h2 fit A⟩⟩
  | ends tv yt =>
    obtain ⟨h1, h2⟩ := hp
    refine ⟨_, rfl, p, _, _, _, rfl, rfl, SqT.of h1, a2_0 _ _, rfl, _, rfl, if_fl (tag_ne (by decide +kernel)) ?_⟩
    refine ⟨_, rfl, p, _, _, _, rfl, rfl, SqT.of h1, a2_0 _ _, rfl, _, rfl, if_fl (tag_ne (by decide +kernel)) ?_⟩
    refine ⟨_, rfl, p, _, _, _, rfl, rfl, SqT.of h1, a2_0 _ _, rfl, _, rfl, if_fl (tag_ne (by decide +kernel)) ?_⟩
    refine ⟨_, rfl, p, _, _, _, rfl, rfl, SqT.of h1, a2_0 _ _, rfl, _, rfl, if_tr (decide_eq_true rfl) ?_⟩
    cases b with
    | true => exact ⟨_, rfl, _, rfl, if_tr rfl ⟨_, rfl, p, _, _, _, rfl, rfl, SqT.of h1, a2_1 _ _, _, rfl, ends_ans hv h2 fit A⟩⟩
    | false => exact ⟨_, rfl, _, rfl, if_fl rfl ⟨_, rfl, _, rfl, p, _, _, _, rfl, rfl, SqT.of h1, a2_1 _ _, ends_ans hv h2 fit A⟩⟩
  | len per es =>
    obtain ⟨q, h1, h2⟩ := hp
    have ans : spLs K C CB [v, nI per, .ref q] H Q E := ⟨v, yl, per, q, es, rfl, hv, fit.1, fit.2, h2, A.letters, fun a e c q R eR H' s L W k => A.made a e c rfl q R eR H' s L (fun w hw => (W w hw).trans (by show _ ↔ (back (cp a) w).length % per ∈ es; unfold back; rw [List.length_map])) k⟩
    refine ⟨_, rfl, p, _, _, _, rfl, rfl, SqT.of h1, a3_0 _ _ _, rfl, _, rfl, if_fl (tag_ne (by decide +kernel)) ?_⟩
    refine ⟨_, rfl, p, _, _, _, rfl, rfl, SqT.of h1, a3_0 _ _ _, rfl, _, rfl, if_fl (tag_ne (by decide +kernel)) ?_⟩
    refine ⟨_, rfl, p, _, _, _, rfl, rfl, SqT.of h1, a3_0 _ _ _, rfl, _, rfl, if_fl (tag_ne (by decide +kernel)) ?_⟩
    refine ⟨_, rfl, p, _, _, _, rfl, rfl, SqT.of h1, a3_0 _ _ _, rfl, _, rfl, if_fl (tag_ne (by decide +kernel)) ?_⟩
    cases b with
    | true => exact ⟨_, rfl, _, rfl, if_tr rfl ⟨_, rfl, p, _, _, _, rfl, rfl, SqT.of h1, a3_2 _ _ _, _, rfl, p, _, _, _, rfl, rfl, SqT.of h1, a3_1 _ _ _, _, rfl, ans⟩⟩
    | false => exact ⟨_, rfl, _, rfl, if_fl rfl ⟨_, rfl, _, rfl, p, _, _, _, rfl, rfl, SqT.of h1, a3_1 _ _ _, _, rfl, p, _, _, _, rfl, rfl, SqT.of h1, a3_2 _ _ _, ans⟩⟩
theorem ok_he {f fM : Addr} {fd fdM : FuncData} (F : Fun K "_law_heard" "_law_heard" sHe f fd) (TC : TxtCk P w K mg base CB CT) (ebb : PySem.W.exmOne K (.ref CB) (.ref CB) = some true) (etb : PySem.W.exmOne K (.ref CT) (.ref CB) = some false) (ett : PySem.W.exmOne K (.ref CT) (.ref CT) = some true)
    (GM : FnOk P w K mg base (L2.CX P w) 9 fM fdM ["_law_signs_here", "_law_plan_here", "_law_by_name"] (spMa K C CB CT)) (bM : L2.Binds K fdM ["_law_signs_here", "_law_plan_here", "_law_by_name"] []) (kM : PySem.W.keepIn K (.ref fM) = true) (mM : mg "_law_made" = some (.ref fM)) :
    FnOk P w K mg base CX0 10 f fd ["_law_signs_here", "_law_plan_here", "_law_by_name"] (spHe K C) := by
  refine F.ok scHe (fun vs H Q E h => ?_) (fun cdv Ar outer s H vs Q E hr h => ?_)
  · obtain ⟨v, p, yl, gp, b, rfl, _⟩ := h
    rfl
  obtain ⟨v, p, yl, gp, b, rfl, hv, hp, fit, A⟩ := h
  refine ⟨_, (pss_cons (ps_try_nm rfl rfl scHe.nd takes0 (fun W pn xe tk _ => (pss_one (ps_set (i := 3) scHe.nd rfl (Or.inl rfl) (pe_callS (E := WE W) GM hr rfl mM kM bM (fun σ => passAt tk σ) (pa_cons (pv 0) (pa_cons (pv 1) (pa_cons (pv 2) pa_nil))))))) (.cons (i := 4) rfl rfl ⟨rfl, by decide, .inl TC.gB⟩ (fun a oe cls d pn hz hf => (pss_one (ps_set (i := 3) scHe.nd rfl (Or.inl rfl) (pe_tup (pa_cons pe_str (pa_cons (pe_xf TC.zB.T.xf TC.zB.no hz hf (pv 4)) pa_nil)))))) (.cons (i := 4) rfl rfl ⟨rfl, by decide, .inl TC.gT⟩ (fun a oe cls d pn hz hf => (pss_one (ps_set (i := 3) scHe.nd rfl (Or.inl rfl) (pe_tup (pa_cons pe_str (pa_cons (pe_xf TC.zT.T.xf TC.zT.no hz hf (pv 4)) pa_nil)))))) .nil)))
    (pss_one (ps_ret (pv 3)))), ?_⟩
  refine ⟨_, rfl, _, rfl, _, rfl, v, p, yl, gp, b, rfl, hv, hp, fit, ⟨fun c => ?_, fun a e c x bx => ?_, fun a e c bn q R eR H' s L W k => ?_⟩⟩
  · intro d' H' n' s2 e'
    exact ⟨true, ebb, (fun _ a ha => ⟨_, rfl, rfl, rfl, d', _, _, rfl, e', rfl, (by show 2 ≤ sizeLine; decide), fun t ht => ⟨_, rfl, A.letters c t _ (s2.trans (same_new ht _)) upd_same⟩⟩), (fun z => nomatch z)⟩
  · intro d' H' n' s2 e'
    exact ⟨false, etb, (fun z => nomatch z), fun _ => ⟨true, ett, (fun _ a' ha => ⟨_, rfl, rfl, rfl, d', _, _, rfl, e', rfl, (by show 2 ≤ sizeLine; decide), fun t ht => ⟨_, rfl, A.text a e c x bx t _ (s2.trans (same_new ht _)) upd_same⟩⟩), (fun z => nomatch z)⟩⟩
  · exact ⟨_, rfl, A.made a e c bn q R eR H' s L W k⟩
end
end Vf

set_option Elab.async false
set_option linter.all false
set_option maxRecDepth 100000
set_option maxHeartbeats 8000000
namespace Vf
open PySem PySem.Spec PyProof.Rows L2 L2.Vx Vs Vm Vd Mk
/-! ### letters and texts that are none -/
abbrev sRr : Stmt := top 70
abbrev nRr : List Str := ["_law_deck_here", "_law_signs_here", "_law_bad", "_law_odd", "_law_plans", "_law_plan_here"]
def strY : PyData → Option Str
  | .str x => some x
  | _ => none
def chkD : PyData → Bool
  | .str x => decide (x.length ≤ 100000) && (cp x).all fun c => decide (c < 128)
  | _ => true
theorem strOr_dt {K : PySem.W.Frag} {H : Hp} {S : Addr → Prop} {v : V} {D : PyData} (h : Dt H S v D) (hw : chkD D = true) : StrOr K H v (strY D) := by
  have e : Vd.isD "str" D = strD D := Vd.isD_str D
  have kk := Vd.kit_D (K := K) D (n := "str") (.inr (.inr (.inl rfl)))
  cases D with
  | str x =>
    have hw : (decide (x.length ≤ 100000) && (cp x).all fun c => decide (c < 128)) = true := hw
    rw [Bool.and_eq_true, decide_eq_true_iff, List.all_eq_true] at hw
    exact ⟨Vd.dt_str h, hw.1, fun c hc => of_decide_eq_true (hw.2 c hc)⟩
  | none => exact ⟨_, Vd.dt_ty h, by rw [kk, e]; rfl⟩
  | bool b => exact ⟨_, Vd.dt_ty h, by rw [kk, e]; rfl⟩
  | int b => exact ⟨_, Vd.dt_ty h, by rw [kk, e]; rfl⟩
  | list b => exact ⟨_, Vd.dt_ty h, by rw [kk, e]; rfl⟩
  | tuple b => exact ⟨_, Vd.dt_ty h, by rw [kk, e]; rfl⟩
  | dict b => exact ⟨_, Vd.dt_ty h, by rw [kk, e]; rfl⟩
theorem az_of {a : Str} (c : letB a = true) : ∀ x ∈ cp a, 97 ≤ x ∧ x ≤ 122 := fun x hx => by
  unfold letB at c
  rw [Bool.and_eq_true, Bool.and_eq_true, Bool.and_eq_true] at c
  have z := List.all_eq_true.mp c.2.1 x hx
  unfold azB at z
  rw [Bool.and_eq_true, decide_eq_true_iff, decide_eq_true_iff] at z
  exact z
theorem okT_no {a x : Str} (h : letB a = true) {c : Nat} (hc : c ∈ cp x) (hz : ¬ (97 ≤ c ∧ c ≤ 122)) : okT a (some x) = false := by
  show wordB a x = false
  unfold wordB
  rw [List.all_eq_false]
  exact ⟨c, hc, by
    intro z
    exact hz (az_of h c (of_decide_eq_true z))⟩
theorem a0_cp (a : Str) : cp (a ++ ("A" : Str)) = cp a ++ [65] := by
  rw [cp_app, show cp ("A" : Str) = [65] by decide +kernel]
theorem a0_len {a : Str} (h : a.length ≤ 4) : (a ++ ("A" : Str)).length ≤ 5 := by
  rw [len_cp, a0_cp, List.length_append, ← len_cp]
  show a.length + 1 ≤ 5
  omega
theorem a0_chk {a : Str} (X : Abc a) : chkD (.str (a ++ ("A" : Str))) = true := by
  show (decide ((a ++ ("A" : Str)).length ≤ 100000) && (cp (a ++ ("A" : Str))).all fun c => decide (c < 128)) = true
  have := a0_len X.four.2
  rw [Bool.and_eq_true, decide_eq_true_iff, List.all_eq_true]
  refine ⟨by omega, fun c hc => decide_eq_true ?_⟩
  rw [a0_cp] at hc
  rcases List.mem_append.mp hc with z | z
  · exact X.asc c z
  · rw [List.mem_singleton.mp z]
    decide
theorem a0_no {a : Str} (X : Abc a) : okT a (some (a ++ ("A" : Str))) = false := okT_no X.lets (c := 65) (by rw [a0_cp]; exact List.mem_append_right _ (List.mem_singleton.mpr rfl)) (by decide)
theorem a0_fit {a : Str} (X : Abc a) : Fit 100 2 (.str (a ++ ("A" : Str))) := by
  have e : (a ++ ("A" : Str)) = mkS (cp a ++ [65]) := by rw [← a0_cp, ← eta_S]
  rw [e]
  refine (fit_str (n := 5) (fun c hc => ?_) ?_).le (by decide) (by decide)
  · rcases List.mem_append.mp hc with z | z
    · exact Nat.lt_trans (X.asc c z) (by decide)
    · rw [List.mem_singleton.mp z]
      decide
  · rw [List.length_append, ← len_cp]
    show a.length + 1 ≤ 5
    have := X.four.2
    omega
/-! what is kept between draws -/
def Away (d g : Addr) (v : V) : Prop := v ≠ .ref d ∧ v ≠ .ref g
theorem dt_away {H : Hp} {d g : Addr} {v : V} {D : PyData} (h : Dt H (fun a => a ≠ d ∧ a ≠ g) v D) : Away d g v := by
  cases h with
  | flat e =>
    constructor <;> (intro z; subst z; exact e)
  | lst e s r => exact ⟨fun z => s.1 (V.ref.inj z), fun z => s.2 (V.ref.inj z)⟩
  | tup e s r => exact ⟨fun z => s.1 (V.ref.inj z), fun z => s.2 (V.ref.inj z)⟩
  | dct e s r => exact ⟨fun z => s.1 (V.ref.inj z), fun z => s.2 (V.ref.inj z)⟩
theorem away_str {d g : Addr} {x : Str} : Away d g (.str x) := ⟨(fun z => nomatch z), (fun z => nomatch z)⟩
theorem away_non {d g : Addr} : Away d g .non := ⟨(fun z => nomatch z), (fun z => nomatch z)⟩
theorem dt_keep {H H' : Hp} {d g : Addr} {v : V} {D : PyData} (h : Dt H (fun a => a ≠ d ∧ a ≠ g) v D) (k : Keeps d g H H') : Dt H' (fun a => a ≠ d ∧ a ≠ g) v D := h.mono (fun a o sa e => k a o sa.1 sa.2 e) fun _ _ x _ => x
theorem ty_keep {K : PySem.W.Frag} {d g : Addr} {H H' : Hp} {v : V} {t : Value} (h : TyX K H v t) (k : Keeps d g H H') (w : Away d g v) : TyX K H' v t := by
  have s : ∀ {a : Addr} {o : HO}, V.ref a = v → H a = some o → H' a = some o := fun {a o} e h => k a o (fun z => w.1 (by rw [← e, z])) (fun z => w.2 (by rw [← e, z])) h
  cases h with
  | base h =>
    refine .base ?_
    cases h with
    | non => exact .non
    | bl x => exact .bl x
    | int x => exact .int x
    | str x => exact .str x
    | flt x => exact .flt x
    | lst e => exact .lst (s rfl e)
    | frz e => exact .frz (s rfl e)
    | tup e => exact .tup (s rfl e)
    | dK e => exact .dK (s rfl e)
    | dT e => exact .dT (s rfl e)
    | ins e c1 c2 c3 c4 c5 => exact .ins (s rfl e) c1 c2 c3 c4 c5
  | byt b => exact .byt b
  | set e => exact .set (s rfl e)
  | kList e c => exact .kList e c
  | kTuple e c => exact .kTuple e c
  | kDict e c => exact .kDict e c
  | fTuple e => exact .fTuple (s rfl e)
  | fDict e => exact .fDict (s rfl e)
theorem strOr_keep {K : PySem.W.Frag} {d g : Addr} {H H' : Hp} {v : V} {y : Option Str} (h : StrOr K H v y) (k : Keeps d g H H') (w : Away d g v) : StrOr K H' v y := by
  cases y with
  | some x => exact h
  | none =>
    obtain ⟨t, ht, kk⟩ := h
    exact ⟨t, ty_keep ht k w, kk⟩
def AwayP (d g : Addr) : GPlan → Prop
  | .fin tvs _ => ∀ x ∈ tvs, Away d g x
  | .hav tv _ _ => Away d g tv
  | .beg tv _ => Away d g tv
  | .ends tv _ => Away d g tv
  | .len _ _ => True
theorem PlanAt.keep {K : PySem.W.Frag} {d g : Addr} {H H' : Hp} {p : Addr} {gp : GPlan} (h : PlanAt K H p gp) (hD : DeckAt H d g) (k : Keeps d g H H') (w : AwayP d g gp) : PlanAt K H' p gp := by
  obtain ⟨ns, m, n, g1, g2, _⟩ := hD
  have s : ∀ {a : Addr} {xs : List V}, H a = some (.tup xs) → H' a = some (.tup xs) := fun {a xs} e => k a _ (ne_of e g1 (fun z => nomatch z)) (ne_of e g2 (fun z => nomatch z)) e
  cases gp with
  | fin tvs ys =>
    obtain ⟨q, h1, h2, h3⟩ := h
    exact ⟨q, s h1, s h2, h3.1, fun i x y e1 e2 => strOr_keep (h3.2 i x y e1 e2) k (w x (List.mem_of_getElem? e1))⟩
  | hav tv yt n => exact ⟨s h.1, strOr_keep h.2 k w⟩
  | beg tv yt => exact ⟨s h.1, strOr_keep h.2 k w⟩
  | ends tv yt => exact ⟨s h.1, strOr_keep h.2 k w⟩
  | len per es =>
    obtain ⟨q, h1, h2⟩ := h
    exact ⟨q, s h1, s h2⟩
theorem heard_bad {C : Addr} {yl : Option Str} {gp : GPlan} {H : Hp} {Q : VK} (c : okL yl = false) (h : ∀ (t : Addr) H', Same H H' → H' t = some (.tup [.str "language", .str "letters"]) → Q (.ref t) H') : HAns C yl gp H Q := by
  refine ⟨fun _ => h, fun a e c' => ?_, fun a e c' => ?_⟩
  · subst e
    exact absurd ((show okL (some a) = true from c').symm.trans c) (by decide)
  · subst e
    exact absurd ((show okL (some a) = true from c').symm.trans c) (by decide)
theorem heard_text {C : Addr} {a : Str} {gp : GPlan} {H : Hp} {Q : VK} {x : V} (c : letB a = true) (b : badV a gp = some x) (h : ∀ (t : Addr) H', Same H H' → H' t = some (.tup [.str "text", x]) → Q (.ref t) H') : HAns C (some a) gp H Q := by
  refine ⟨fun z => ?_, fun a' e _ x' b' t H' s ht => ?_, fun a' e _ b' => ?_⟩
  · exact absurd ((show okL (some a) = true from c).symm.trans z) (by decide)
  · obtain rfl := Option.some.inj e
    rw [b] at b'
    obtain rfl := Option.some.inj b'
    exact h t H' s ht
  · obtain rfl := Option.some.inj e
    rw [b] at b'
    exact nomatch b'
/-- plans whose texts are odd -/
def OddPl (a : Str) (o : V) (y : Option Str) : List GPlan := [.fin [.str "", o, .non] [some "", y, none], .hav o y 2, .beg o y, .ends o y]
theorem odd_bad {a : Str} {o : V} {y : Option Str} (c : okT a y = false) : ∀ gp ∈ OddPl a o y, badV a gp = some o := by
  intro gp h
  unfold OddPl at h
  simp only [List.mem_cons, List.not_mem_nil, or_false] at h
  rcases h with rfl | rfl | rfl | rfl
  · show badF a [.str "", o, .non] [some "", y, none] = some o
    exact bad_first _ _ 1 o y rfl rfl c fun j z hj hz => by
      obtain rfl : j = 0 := by omega
      obtain rfl := Option.some.inj hz
      rfl
  · show (if okT a y = true ∧ y ≠ some "" then none else some o) = some o
    rw [if_neg (by rw [c]; exact fun z => nomatch z.1)]
  · show (if okT a y = true then none else some o) = some o
    rw [if_neg (by rw [c]; decide)]
  · show (if okT a y = true then none else some o) = some o
    rw [if_neg (by rw [c]; decide)]
theorem odd_fit {a : Str} {o : V} {y : Option Str} (h : ∀ p, y = some p → p.length ≤ 9) : ∀ gp ∈ OddPl a o y, FitP gp := by
  intro gp hg
  unfold OddPl at hg
  simp only [List.mem_cons, List.not_mem_nil, or_false] at hg
  rcases hg with rfl | rfl | rfl | rfl
  · refine ⟨.inr (.inr (.inr (.inl rfl))), ⟨?_, by show 3 ≤ 12; decide⟩, fun z => absurd z (by show ¬ 3 < 2; decide)⟩
    show (((((some "" : Option Str).map cp).getD []).length + 1) + (((y.map cp).getD []).length + 1 + (0 + 1 + 0))) ≤ 800
    have e1 : (((some "" : Option Str).map cp).getD []).length = 0 := rfl
    have e2 : ((y.map cp).getD []).length ≤ 9 := by
      cases y with
      | none => exact Nat.zero_le _
      | some p =>
        show (cp p).length ≤ 9
        rw [← len_cp]
        exact h p rfl
    omega
  · intro p e
    have := h p e
    show (2 + 1) * (p.length + 1) ≤ 900
    omega
  · intro p e
    have := h p e
    omega
  · intro p e
    have := h p e
    omega
theorem odd_away {a : Str} {d g : Addr} {o : V} {y : Option Str} (h : Away d g o) : ∀ gp ∈ OddPl a o y, AwayP d g gp := by
  intro gp hg
  unfold OddPl at hg
  simp only [List.mem_cons, List.not_mem_nil, or_false] at hg
  rcases hg with rfl | rfl | rfl | rfl
  · intro x hx
    simp only [List.mem_cons, List.not_mem_nil, or_false] at hx
    rcases hx with rfl | rfl | rfl
    · exact away_str
    · exact h
    · exact away_non
  · exact h
  · exact h
  · exact h
def spRr : Sp := fun vs H Q _ => ∃ (d g : Addr) (a : Str), vs = [.ref d, .str a] ∧ Abc a ∧ DeckAt H d g ∧ ∀ H', DeckAt H' d g → Keeps d g H H' → Q (.bl true) H'
theorem len_rr : ∀ vs H Q E, spRr vs H Q E → vs.length = (["_law_deck_here", "_law_signs_here"] : List Str).length := fun vs H Q E ⟨_, _, _, e, _⟩ => by rw [e]; rfl
structure TxtRr (mg : Str → Option Value) (fW fP fH : Addr) : Prop extends TxtWd mg fW fP where
  heard : mg "_law_heard" = some (.ref fH)
  rep : mg "repr" = none
section
variable {P : Program} {w : World} {K : PySem.W.Frag} {mg : Str → Option Value} {base : Heap} {C : Addr}
theorem scRr : FnScope nRr ["_law_deck_here", "_law_signs_here"] (defScope sRr) := ⟨rfl, rfl, rfl, by decide +kernel, rfl, by decide +kernel, by decide +kernel⟩
theorem ok_rr {f fW fP fH : Addr} {fd fdW fdP fdH : FuncData} (F : Fun K "_law_refused_right" "_law_refused_right" sRr f fd) (T : TxtRr mg fW fP fH)
    (GW : FnOk P w K mg base CX0 1 fW fdW ["_law_deck_here", "_law_below"] spDraw) (bW : L2.Binds K fdW ["_law_deck_here", "_law_below"] []) (kW : PySem.W.keepIn K (.ref fW) = true)
    (GP : FnOk P w K mg base CX0 2 fP fdP ["_law_deck_here", "_law_some"] (spPick K)) (bP : L2.Binds K fdP ["_law_deck_here", "_law_some"] []) (kP : PySem.W.keepIn K (.ref fP) = true)
    (GH : FnOk P w K mg base CX0 10 fH fdH ["_law_signs_here", "_law_plan_here", "_law_by_name"] (spHe K C)) (bH : L2.Binds K fdH ["_law_signs_here", "_law_plan_here", "_law_by_name"] []) (kH : PySem.W.keepIn K (.ref fH) = true) :
    FnG P w K mg base 11 f fd ["_law_deck_here", "_law_signs_here"] spRr := by
  refine FunG F scRr len_rr (fun cdv Ar outer s H vs Q E hr hg h => ?_)
  obtain ⟨d, g, a, rfl, X, hD, q⟩ := h
  have hr1 : Room 1 _ := hr.mono (by decide)
  have hr2 : Room 2 _ := hr.mono (by decide)
  have hu : (Ar.deeper (envOfC "_law_refused_right" (defScope sRr) s.heap.objs.size f cdv)).units + 100 < cLine := by
    have z := hr.un
    omega
  have hu64 : (Ar.deeper (envOfC "_law_refused_right" (defScope sRr) s.heap.objs.size f cdv)).units + 64 < cLine := by omega
  refine ⟨_, (pss_cons (ps_set (i := 2) scRr.nd rfl (Or.inl rfl) (pe_call GP hr2 rfl T.pick kP bP .nil pass0 (pa_cons (pv 0) (pa_cons (pe_lst (pa_cons pe_non (pa_cons pe_str (pa_cons pe_str (pa_cons pe_str (pa_cons pe_str (pa_cons pe_str (pa_cons pe_int (pa_cons (pe_tup (pa_cons pe_str pa_nil)) (pa_cons (pe_lst (pa_cons pe_str pa_nil)) (pa_cons pe_str (pa_cons pe_bl pa_nil)))))))))))) pa_nil))))
    (pss_cons (ps_set (i := 3) scRr.nd rfl (Or.inl rfl) (pe_call GP hr2 rfl T.pick kP bP .nil pass0 (pa_cons (pv 0) (pa_cons (pe_lst (pa_cons pe_non (pa_cons pe_int (pa_cons pe_str (pa_cons (pe_op op_add_str (pv 1) pe_str) (pa_cons (pe_tup (pa_cons pe_str pa_nil)) (pa_cons (pe_lst pa_nil) (pa_cons pe_dnewK (pa_cons pe_str (pa_cons pe_bl pa_nil)))))))))) pa_nil))))
    (pss_cons (ps_set (i := 4) scRr.nd rfl (Or.inl rfl) (pe_lst (pa_cons (pe_tup (pa_cons pe_str (pa_cons (pe_tup (pa_cons pe_str (pa_cons (pv 3) (pa_cons pe_non pa_nil)))) pa_nil))) (pa_cons (pe_tup (pa_cons pe_str (pa_cons (pv 3) (pa_cons pe_int pa_nil)))) (pa_cons (pe_tup (pa_cons pe_str (pa_cons (pv 3) pa_nil))) (pa_cons (pe_tup (pa_cons pe_str (pa_cons (pv 3) pa_nil))) pa_nil))))))
    (pss_cons (ps_for PassesOwn.never rfl (pi_list (pe_op op_cat (pv 4) (pe_lst (pa_cons (pe_tup (pa_cons pe_str (pa_cons (pe_tup pa_nil) pa_nil))) (pa_cons (pe_tup (pa_cons pe_str (pa_cons pe_int (pa_cons (pe_tup (pa_cons pe_int pa_nil)) pa_nil)))) pa_nil))))) (pg_name (i := 5) scRr.nd rfl (Or.inl rfl)) (pss_one (ps_if (pt_cmpR (op_neD hu64) (pe_call GH hr rfl T.heard kH bH .nil pass0 (pa_cons (pv 2) (pa_cons (pv 5) (pa_cons (pe_cmpR op_eq (pe_call GW hr1 rfl T.draw kW bW .nil pass0 (pa_cons (pv 0) (pa_cons pe_int pa_nil))) pe_int (nomark _)) pa_nil)))) (pe_tup (pa_cons pe_str (pa_cons pe_str pa_nil))) (nomark _)) (pss_one (ps_ret pe_bl)) pss_nil)))
    (pss_cons (ps_for PassesOwn.never rfl (pi_list (pv 4)) (pg_name (i := 5) scRr.nd rfl (Or.inl rfl)) (pss_one (ps_if (pt_cmpR op_ne (pe_callB (call_rep hg hu (fun _ => True)) (by rfl) T.rep (by decide +kernel) (pa_cons (pe_call GH hr rfl T.heard kH bH .nil pass0 (pa_cons (pv 1) (pa_cons (pv 5) (pa_cons (pe_cmpR op_eq (pe_call GW hr1 rfl T.draw kW bW .nil pass0 (pa_cons (pv 0) (pa_cons pe_int pa_nil))) pe_int (nomark _)) pa_nil)))) pa_nil)) (pe_callB (call_rep hg hu (fun _ => True)) (by rfl) T.rep (by decide +kernel) (pa_cons (pe_tup (pa_cons pe_str (pa_cons (pv 3) pa_nil))) pa_nil)) (nomark _)) (pss_one (ps_ret pe_bl)) pss_nil)))
    (pss_one (ps_ret (pe_cmpR op_eq (pe_callB (call_rep hg hu (fun _ => True)) (by rfl) T.rep (by decide +kernel) (pa_cons (pe_call GH hr rfl T.heard kH bH .nil pass0 (pa_cons (pv 1) (pa_cons (pe_tup (pa_cons pe_str (pa_cons pe_str (pa_cons pe_int pa_nil)))) (pa_cons pe_bl pa_nil)))) pa_nil)) (pe_callB (call_rep hg hu (fun _ => True)) (by rfl) T.rep (by decide +kernel) (pa_cons (pe_tup (pa_cons pe_str (pa_cons pe_str pa_nil))) pa_nil)) (nomark _))))))))), ?_⟩
  obtain ⟨x1, x4⟩ := X.four
  have hs0 : a.length + ("A" : Str).length ≤ sizeLine := by
    have e : ("A" : Str).length = 1 := by decide +kernel
    rw [e, sizeLine_eq]
    omega
  refine ⟨_, rfl, (by show 1 ≤ sizeLine; decide), fun x1 xh1 => ?_⟩
  have xs1 : Same H (upd H x1 (.tup [V.str "a"])) := same_new xh1 _
  have xe1 : upd H x1 (.tup [V.str "a"]) x1 = some (.tup [V.str "a"]) := upd_same
  have xo1 := hD.dn xh1
  have xd1 := hD.same xs1
  generalize upd H x1 (.tup [V.str "a"]) = xJ1 at xs1 xe1 xd1 ⊢
  refine ⟨(by show 1 ≤ sizeLine; decide), fun x2 xh2 => ?_⟩
  have xs2 : Same xJ1 (upd xJ1 x2 (.lst [V.str "a"])) := same_new xh2 _
  have xe2 : upd xJ1 x2 (.lst [V.str "a"]) x2 = some (.lst [V.str "a"]) := upd_same
  have xo2 := xd1.dn xh2
  have xd2 := xd1.same xs2
  generalize upd xJ1 x2 (.lst [V.str "a"]) = xJ2 at xs2 xe2 xd2 ⊢
  refine ⟨(by show 11 ≤ sizeLine; decide), fun xl xh => ?_⟩
  have xs := same_new xh (.lst [V.non, V.str "", V.str "ba", V.str "aa", V.str "abcde", V.str "A", V.int 7, V.ref x1, V.ref x2, V.str "a b", V.bl true])
  have xe := upd_same (H := xJ2) (a := xl) (o := .lst [V.non, V.str "", V.str "ba", V.str "aa", V.str "abcde", V.str "A", V.int 7, V.ref x1, V.ref x2, V.str "a b", V.bl true])
  have xo := xd2.dn xh
  have xd := xd2.same xs
  have xt : Same H xJ2 := (xs1).trans xs2
  have xk : ∀ x ∈ [V.non, V.str "", V.str "ba", V.str "aa", V.str "abcde", V.str "A", V.int 7, V.ref x1, V.ref x2, V.str "a b", V.bl true], ∃ D, Dt xJ2 (fun a => a ≠ d ∧ a ≠ g) x D ∧ chkD D = true ∧ okL (strY D) = false := by
    refine List.forall_mem_cons.2 ⟨⟨PyData.none, (.flat rfl), (And.intro (by decide +kernel) (by decide +kernel))⟩, ?_⟩
    refine List.forall_mem_cons.2 ⟨⟨(.str ""), (.flat rfl), (And.intro (by decide +kernel) (by decide +kernel))⟩, ?_⟩
    refine List.forall_mem_cons.2 ⟨⟨(.str "ba"), (.flat rfl), (And.intro (by decide +kernel) (by decide +kernel))⟩, ?_⟩
    refine List.forall_mem_cons.2 ⟨⟨(.str "aa"), (.flat rfl), (And.intro (by decide +kernel) (by decide +kernel))⟩, ?_⟩
    refine List.forall_mem_cons.2 ⟨⟨(.str "abcde"), (.flat rfl), (And.intro (by decide +kernel) (by decide +kernel))⟩, ?_⟩
    refine List.forall_mem_cons.2 ⟨⟨(.str "A"), (.flat rfl), (And.intro (by decide +kernel) (by decide +kernel))⟩, ?_⟩
    refine List.forall_mem_cons.2 ⟨⟨(.int 7), (.flat rfl), (And.intro (by decide +kernel) (by decide +kernel))⟩, ?_⟩
    refine List.forall_mem_cons.2 ⟨⟨(PyData.tuple [(.str "a")]), (.tup (xs2 _ _ xe1) xo1 (.cons (.flat rfl) .nil)), (And.intro (by decide +kernel) (by decide +kernel))⟩, ?_⟩
    refine List.forall_mem_cons.2 ⟨⟨(PyData.list [(.str "a")]), (.lst xe2 xo2 (.cons (.flat rfl) .nil)), (And.intro (by decide +kernel) (by decide +kernel))⟩, ?_⟩
    refine List.forall_mem_cons.2 ⟨⟨(.str "a b"), (.flat rfl), (And.intro (by decide +kernel) (by decide +kernel))⟩, ?_⟩
    refine List.forall_mem_cons.2 ⟨⟨(.bool true), (.flat rfl), (And.intro (by decide +kernel) (by decide +kernel))⟩, fun x z => nomatch z⟩
  refine ⟨d, g, xl, _, rfl, SqL.of xe, xo.1, xo.2, by simp, (by show 11 < 1000000; decide), xd, fun bad H1 hbad hD1 k1 => ?_⟩
  obtain ⟨DB, db, db1, db2⟩ := xk bad hbad
  have wB := dt_away db
  have sB1 : StrOr K H1 bad (strY DB) := strOr_keep (strOr_dt (dt_same db xs) db1) k1 wB
  have kk1 : Keeps d g H H1 := ((Keeps.of xt).trans (.of xs)).trans k1
  clear k1 hbad xk
  refine ⟨_, rfl, _, rfl, _, _, rfl, rfl, hs0, (by show 1 ≤ sizeLine; decide), fun y1 yh1 => ?_⟩
  have ys1 : Same H1 (upd H1 y1 (.tup [V.str "a"])) := same_new yh1 _
  have ye1 : upd H1 y1 (.tup [V.str "a"]) y1 = some (.tup [V.str "a"]) := upd_same
  have yo1 := hD1.dn yh1
  have yd1 := hD1.same ys1
  generalize upd H1 y1 (.tup [V.str "a"]) = yJ1 at ys1 ye1 yd1 ⊢
  refine ⟨(by show 0 ≤ sizeLine; decide), fun y2 yh2 => ?_⟩
  have ys2 : Same yJ1 (upd yJ1 y2 (.lst [])) := same_new yh2 _
  have ye2 : upd yJ1 y2 (.lst []) y2 = some (.lst []) := upd_same
  have yo2 := yd1.dn yh2
  have yd2 := yd1.same ys2
  generalize upd yJ1 y2 (.lst []) = yJ2 at ys2 ye2 yd2 ⊢
  intro y3 yh3
  have ys3 : Same yJ2 (upd yJ2 y3 (.dK [])) := same_new yh3 _
  have ye3 : upd yJ2 y3 (.dK []) y3 = some (.dK []) := upd_same
  have yo3 := yd2.dn yh3
  have yd3 := yd2.same ys3
  generalize upd yJ2 y3 (.dK []) = yJ3 at ys3 ye3 yd3 ⊢
  refine ⟨(by show 9 ≤ sizeLine; decide), fun yl yh => ?_⟩
  have ys := same_new yh (.lst [V.non, V.int 0, V.str "#", V.str (a ++ ("A" : Str)), V.ref y1, V.ref y2, V.ref y3, V.str "\n", V.bl true])
  have ye := upd_same (H := yJ3) (a := yl) (o := .lst [V.non, V.int 0, V.str "#", V.str (a ++ ("A" : Str)), V.ref y1, V.ref y2, V.ref y3, V.str "\n", V.bl true])
  have yo := yd3.dn yh
  have yd := yd3.same ys
  have yt : Same H1 yJ3 := ((ys1).trans ys2).trans ys3
  have yk : ∀ x ∈ [V.non, V.int 0, V.str "#", V.str (a ++ ("A" : Str)), V.ref y1, V.ref y2, V.ref y3, V.str "\n", V.bl true], ∃ D, Dt yJ3 (fun a => a ≠ d ∧ a ≠ g) x D ∧ chkD D = true ∧ okT a (strY D) = false ∧ Fit 100 2 D ∧ (∀ p, strY D = some p → p.length ≤ 9) := by
    refine List.forall_mem_cons.2 ⟨⟨PyData.none, (.flat rfl), (And.intro rfl (And.intro rfl (And.intro (Fit.mk rfl (by decide +kernel) (by decide)) (fun p e => nomatch e))))⟩, ?_⟩
    refine List.forall_mem_cons.2 ⟨⟨(.int 0), (.flat rfl), (And.intro rfl (And.intro rfl (And.intro (Fit.mk rfl (by decide +kernel) (by decide)) (fun p e => nomatch e))))⟩, ?_⟩
    refine List.forall_mem_cons.2 ⟨⟨(.str "#"), (.flat rfl), (And.intro (by decide +kernel) (And.intro (okT_no X.lets (c := 35) (by decide +kernel) (by decide)) (And.intro (Fit.mk rfl (by decide +kernel) (by decide)) (fun p e => by rw [← Option.some.inj e]; decide +kernel))))⟩, ?_⟩
    refine List.forall_mem_cons.2 ⟨⟨(.str (a ++ ("A" : Str))), (.flat rfl), (And.intro (a0_chk X) (And.intro (a0_no X) (And.intro (a0_fit X) (fun p e => by rw [← Option.some.inj e]; exact Nat.le_trans (a0_len x4) (by decide)))))⟩, ?_⟩
    refine List.forall_mem_cons.2 ⟨⟨(PyData.tuple [(.str "a")]), (.tup (ys3 _ _ (ys2 _ _ ye1)) yo1 (.cons (.flat rfl) .nil)), (And.intro rfl (And.intro rfl (And.intro (Fit.mk rfl (by decide +kernel) (by decide)) (fun p e => nomatch e))))⟩, ?_⟩
    refine List.forall_mem_cons.2 ⟨⟨(PyData.list []), (.lst (ys3 _ _ ye2) yo2 .nil), (And.intro rfl (And.intro rfl (And.intro (Fit.mk rfl (by decide +kernel) (by decide)) (fun p e => nomatch e))))⟩, ?_⟩
    refine List.forall_mem_cons.2 ⟨⟨(.dict []), (.dct ye3 yo3 .nil), (And.intro rfl (And.intro rfl (And.intro (Fit.mk rfl (by decide +kernel) (by decide)) (fun p e => nomatch e))))⟩, ?_⟩
    refine List.forall_mem_cons.2 ⟨⟨(.str "\n"), (.flat rfl), (And.intro (by decide +kernel) (And.intro (okT_no X.lets (c := 10) (by decide +kernel) (by decide)) (And.intro (Fit.mk rfl (by decide +kernel) (by decide)) (fun p e => by rw [← Option.some.inj e]; decide +kernel))))⟩, ?_⟩
    refine List.forall_mem_cons.2 ⟨⟨(.bool true), (.flat rfl), (And.intro rfl (And.intro rfl (And.intro (Fit.mk rfl (by decide +kernel) (by decide)) (fun p e => nomatch e))))⟩, fun x z => nomatch z⟩
  refine ⟨d, g, yl, _, rfl, SqL.of ye, yo.1, yo.2, by simp, (by show 9 < 1000000; decide), yd, fun odd H2 hodd hD2 k2 => ?_⟩
  obtain ⟨DO, do0, do1, do2, do3, do4⟩ := yk odd hodd
  have wO := dt_away do0
  have dO := dt_keep (dt_same do0 ys) k2
  have k12 : Keeps d g H1 H2 := ((Keeps.of yt).trans (.of ys)).trans k2
  have sB2 := strOr_keep sB1 k12 wB
  have sO2 : StrOr K H2 odd (strY DO) := strOr_dt dO do1
  have kk2 := kk1.trans k12
  clear k12 k2 hodd yk kk1 sB1
  refine to_name (σ' := [some (.ref d), some (.str a), some bad, some odd, none, none]) rfl ?_
  have two : 2 ≤ sizeLine := by decide
  have three : 3 ≤ sizeLine := by decide
  refine ⟨_, rfl, three, fun q0 g0 => ⟨two, fun p0 h0 => ⟨_, rfl, three, fun p1 h1 => ⟨_, rfl, two, fun p2 h2 => ⟨_, rfl, two, fun p3 h3 => ⟨(by show 4 ≤ sizeLine; decide), fun L hL => ?_⟩⟩⟩⟩⟩⟩
  have a0 := same_new g0 (.tup [.str "", odd, .non])
  have a1 := same_new h0 (.tup [.str "finite", .ref q0])
  have a2 := same_new h1 (.tup [.str "having", odd, .int 2])
  have a3 := same_new h2 (.tup [.str "beginning", odd])
  have a4 := same_new h3 (.tup [.str "ending", odd])
  have a5 := same_new hL (.lst [.ref p0, .ref p1, .ref p2, .ref p3])
  have b0 := a5 _ _ (a4 _ _ (a3 _ _ (a2 _ _ (a1 _ _ (show upd H2 q0 _ q0 = _ from upd_same)))))
  have b1 := a5 _ _ (a4 _ _ (a3 _ _ (a2 _ _ (show upd (upd H2 q0 _) p0 _ p0 = _ from upd_same))))
  have b2 := a5 _ _ (a4 _ _ (a3 _ _ (show upd (upd (upd H2 q0 _) p0 _) p1 _ p1 = _ from upd_same)))
  have b3 := a5 _ _ (a4 _ _ (show upd (upd (upd (upd H2 q0 _) p0 _) p1 _) p2 _ p2 = _ from upd_same))
  have b4 := a5 _ _ (show upd (upd (upd (upd (upd H2 q0 _) p0 _) p1 _) p2 _) p3 _ p3 = _ from upd_same)
  have b5 := upd_same (H := (upd (upd (upd (upd (upd H2 q0 (.tup [.str "", odd, .non])) p0 (.tup [.str "finite", .ref q0])) p1 (.tup [.str "having", odd, .int 2])) p2 (.tup [.str "beginning", odd])) p3 (.tup [.str "ending", odd]))) (a := L) (o := .lst [.ref p0, .ref p1, .ref p2, .ref p3])
  have aa := ((((a0.trans a1).trans a2).trans a3).trans a4).trans a5
  have hLd := (hD2.same ((((a0.trans a1).trans a2).trans a3).trans a4)).dn hL
  show tSeq _ _ _ [some (.ref d), some (.str a), some bad, some odd, some (.ref L), none] _
  generalize upd (upd (upd (upd (upd (upd H2 q0 (.tup [.str "", odd, .non])) p0 (.tup [.str "finite", .ref q0])) p1 (.tup [.str "having", odd, .int 2])) p2 (.tup [.str "beginning", odd])) p3 (.tup [.str "ending", odd])) L (.lst [.ref p0, .ref p1, .ref p2, .ref p3]) = H3 at b0 b1 b2 b3 b4 b5 aa ⊢
  clear a0 a1 a2 a3 a4 a5 g0 h0 h1 h2 h3
  have sO3 := strOr_same sO2 aa
  have sE : StrOr K H3 (.str "") (some "") := strOr_dt (S := fun _ => True) (D := .str "") (.flat rfl) (by decide +kernel)
  have sN : StrOr K H3 .non none := strOr_dt (S := fun _ => True) (D := .none) (.flat rfl) rfl
  have four : ∀ (i : Nat) (y : V), [V.ref p0, V.ref p1, V.ref p2, V.ref p3][i]? = some y → ∃ p gp, y = .ref p ∧ gp ∈ OddPl a odd (strY DO) ∧ PlanAt K H3 p gp := fun i y e => by
    match i, e with
    | 0, e =>
      refine ⟨p0, _, (Option.some.inj e).symm, List.mem_cons_self .., q0, b1, b0, rfl, fun j x z e1 e2 => ?_⟩
      match j, e1, e2 with
      | 0, e1, e2 =>
        obtain rfl := Option.some.inj e1
        obtain rfl := Option.some.inj e2
        exact sE
      | 1, e1, e2 =>
        obtain rfl := Option.some.inj e1
        obtain rfl := Option.some.inj e2
        exact sO3
      | 2, e1, e2 =>
        obtain rfl := Option.some.inj e1
        obtain rfl := Option.some.inj e2
        exact sN
      | n + 3, e1, _ => simp at e1
    | 1, e => exact ⟨p1, _, (Option.some.inj e).symm, List.mem_cons_of_mem _ (List.mem_cons_self ..), b2, sO3⟩
    | 2, e => exact ⟨p2, _, (Option.some.inj e).symm, List.mem_cons_of_mem _ (List.mem_cons_of_mem _ (List.mem_cons_self ..)), b3, sO3⟩
    | 3, e => exact ⟨p3, _, (Option.some.inj e).symm, List.mem_cons_of_mem _ (List.mem_cons_of_mem _ (List.mem_cons_of_mem _ (List.mem_cons_self ..))), b4, sO3⟩
    | n + 4, e => simp at e
  have sB3 := strOr_same sB2 aa
  have dO3 := dt_same dO aa
  have hD3 := hD2.same aa
  have kk3 := kk2.trans (.of aa)
  clear b0 b1 b2 b3 b4 sB2 sO2 dO hD2 kk2 aa sN sE
  -- with bad letters
  refine ⟨_, rfl, (by show 0 ≤ sizeLine; decide), fun u0 f0 => ⟨two, fun w0 f1 => ⟨(by show 1 ≤ sizeLine; decide), fun u1 f2 => ⟨three, fun w1 f3 => ⟨two, fun l2 f4 => ⟨L, l2, [V.ref p0, V.ref p1, V.ref p2, V.ref p3], [V.ref w0, V.ref w1], rfl, rfl, ?_⟩⟩⟩⟩⟩⟩
  have a0 := same_new f0 (.tup [])
  have a1 := same_new f1 (.tup [.str "finite", .ref u0])
  have a2 := same_new f2 (.tup [.int 1])
  have a3 := same_new f3 (.tup [.str "lengths", .int 2, .ref u1])
  have a4 := same_new f4 (.lst [.ref w0, .ref w1])
  have c0 := a4 _ _ (a3 _ _ (a2 _ _ (a1 _ _ (show upd H3 u0 _ u0 = _ from upd_same))))
  have c1 := a4 _ _ (a3 _ _ (a2 _ _ (show upd (upd H3 u0 _) w0 _ w0 = _ from upd_same)))
  have c2 := a4 _ _ (a3 _ _ (show upd (upd (upd H3 u0 _) w0 _) u1 _ u1 = _ from upd_same))
  have c3 := a4 _ _ (show upd (upd (upd (upd H3 u0 _) w0 _) u1 _) w1 _ w1 = _ from upd_same)
  have c4 := upd_same (H := (upd (upd (upd (upd H3 u0 (.tup [])) w0 (.tup [.str "finite", .ref u0])) u1 (.tup [.int 1])) w1 (.tup [.str "lengths", .int 2, .ref u1]))) (a := l2) (o := .lst [.ref w0, .ref w1])
  have aa := (((a0.trans a1).trans a2).trans a3).trans a4
  generalize upd (upd (upd (upd (upd H3 u0 (.tup [])) w0 (.tup [.str "finite", .ref u0])) u1 (.tup [.int 1])) w1 (.tup [.str "lengths", .int 2, .ref u1])) l2 (.lst [.ref w0, .ref w1]) = H4 at c0 c1 c2 c3 c4 aa ⊢
  clear a0 a1 a2 a3 a4 f0 f1 f2 f3 f4
  refine ⟨aa _ _ b5, c4, (by show 4 + 2 ≤ sizeLine; decide), fun r hr' => ⟨r, rfl, ⟨_, SqL.of upd_same⟩, ?_⟩⟩
  have hrd := (hD3.same aa).dn hr'
  have ab := same_new hr' (.lst ([V.ref p0, V.ref p1, V.ref p2, V.ref p3] ++ [V.ref w0, V.ref w1]))
  have er := upd_same (H := H4) (a := r) (o := .lst ([V.ref p0, V.ref p1, V.ref p2, V.ref p3] ++ [V.ref w0, V.ref w1]))
  have c0 := ab _ _ c0
  have c1 := ab _ _ c1
  have c2 := ab _ _ c2
  have c3 := ab _ _ c3
  have aa := aa.trans ab
  generalize upd H4 r (.lst ([V.ref p0, V.ref p1, V.ref p2, V.ref p3] ++ [V.ref w0, V.ref w1])) = H5 at er c0 c1 c2 c3 aa ⊢
  clear ab
  have hD5 := hD3.same aa
  have six : ∀ (i : Nat) (y : V), ([V.ref p0, V.ref p1, V.ref p2, V.ref p3] ++ [V.ref w0, V.ref w1])[i]? = some y → ∃ p gp, y = .ref p ∧ PlanAt K H5 p gp ∧ FitP gp ∧ AwayP d g gp := fun i y e => by
    rcases Nat.lt_or_ge i 4 with c | c
    · rw [List.getElem?_append_left (show i < [V.ref p0, V.ref p1, V.ref p2, V.ref p3].length from c)] at e
      obtain ⟨p, gp, rfl, m, pa⟩ := four i y e
      exact ⟨p, gp, rfl, pa.same aa, odd_fit do4 gp m, odd_away (a := a) wO gp m⟩
    · rw [List.getElem?_append_right (show [V.ref p0, V.ref p1, V.ref p2, V.ref p3].length ≤ i from c)] at e
      obtain ⟨j, rfl⟩ : ∃ j, i = 4 + j := ⟨i - 4, by omega⟩
      rw [show 4 + j - [V.ref p0, V.ref p1, V.ref p2, V.ref p3].length = j from Nat.add_sub_cancel_left 4 j] at e
      match j, e with
      | 0, e => exact ⟨w0, .fin [] [], (Option.some.inj e).symm, ⟨u0, c1, c0, rfl, fun i x y e1 => by simp at e1⟩, ⟨.inl rfl, ⟨by show 0 ≤ 800; decide, by show 0 ≤ 12; decide⟩, fun _ y h => nomatch h⟩, fun x h => nomatch h⟩
      | 1, e => exact ⟨w1, .len 2 [1], (Option.some.inj e).symm, ⟨u1, c3, c2⟩, ⟨by decide, by decide⟩, trivial⟩
      | n + 2, e => simp at e
  have sB5 := strOr_same sB3 aa
  refine for_it (walk_list (xs := [V.ref p0, V.ref p1, V.ref p2, V.ref p3] ++ [V.ref w0, V.ref w1])) (fun i σ H' => ∃ v5 : Option V, σ = [some (.ref d), some (.str a), some bad, some odd, some (.ref L), v5] ∧ DeckAt H' d g ∧ Keeps d g H5 H') ⟨none, rfl, hD5, Keeps.refl d g H5⟩ (fun i σ H' _ ⟨_, _, _, k⟩ => SqL.of (k _ _ hrd.1 hrd.2 er)) ?_ ?_
  · rintro i y σ H6 H7 hi ⟨v5, rfl, hD6, k6⟩ ⟨rfl, hy⟩
    obtain ⟨p, gp, rfl, pa, ft, aw⟩ := six i y hy
    refine ⟨_, rfl, _, rfl, _, rfl, d, g, _, rfl, by decide, by decide, hD6, fun z H8 z0 z1 hD8 k8 => ⟨rfl, bad, p, strY DB, gp, _, rfl, strOr_keep sB5 (k6.trans k8) wB, pa.keep hD5 (k6.trans k8) aw, ft, heard_bad db2 fun t H9 s9 ht => ⟨two, fun t2 ht2 => ?_⟩⟩⟩
    have s10 := same_new ht2 (.tup [V.str "language", V.str "letters"])
    refine ⟨.tuple [.str "language", .str "letters"], .tuple [.str "language", .str "letters"], .tup (SqT.of (s10 _ _ ht)) (.cons (.str _) (.cons (.str _) .nil)), .tup (SqT.of upd_same) (.cons (.str _) (.cons (.str _) .nil)), by decide +kernel, by decide +kernel, _, rfl, if_fl (by decide +kernel) ?_⟩
    exact ⟨_, rfl, hD8.same (s9.trans s10), (k6.trans k8).trans (.of (s9.trans s10))⟩
  rintro σ H6 ⟨v5, rfl, hD6, k6⟩
  have k36 : Keeps d g H3 H6 := (Keeps.of aa).trans k6
  have eL6 := k36 _ _ hLd.1 hLd.2 b5
  have sa : ∀ {Hx : Hp}, StrOr K Hx (.str a) (some a) := ⟨rfl, by omega, X.asc⟩
  have shO : Shows (.tuple [.str "text", DO]) := by
    have e : ("text" : Str) = mkS [116, 101, 120, 116] := by decide +kernel
    rw [e]
    refine (fit_tup (b := 100) (e := 2) (ds := [.str (mkS [116, 101, 120, 116]), DO]) fun x hx => ?_).shows (by show 2 * (100 + 2) + 3 ≤ 1000000; decide) (by decide)
    rcases List.mem_cons.mp hx with rfl | hx
    · exact (fit_str (n := 4) (by decide) (by decide)).le (by decide) (by decide)
    · rw [List.mem_singleton.mp hx]
      exact do3
  have shE : Shows (.tuple [.str "text", .str ""]) := by
    have e : ("text" : Str) = mkS [116, 101, 120, 116] := by decide +kernel
    have e2 : ("" : Str) = mkS [] := by decide +kernel
    rw [e, e2]
    refine (fit_tup (b := 100) (e := 2) (ds := [.str (mkS [116, 101, 120, 116]), .str (mkS [])]) fun x hx => ?_).shows (by show 2 * (100 + 2) + 3 ≤ 1000000; decide) (by decide)
    rcases List.mem_cons.mp hx with rfl | hx
    · exact (fit_str (n := 4) (by decide) (by decide)).le (by decide) (by decide)
    · rw [List.mem_singleton.mp hx]
      exact (fit_str (n := 0) (by decide) (by decide)).le (by decide) (by decide)
  refine ⟨_, rfl, L, rfl, ⟨_, SqL.of eL6⟩, ?_⟩
  refine for_it (walk_list (xs := [V.ref p0, V.ref p1, V.ref p2, V.ref p3])) (fun i σ H' => ∃ v5 : Option V, σ = [some (.ref d), some (.str a), some bad, some odd, some (.ref L), v5] ∧ DeckAt H' d g ∧ Keeps d g H3 H') ⟨v5, rfl, hD6, k36⟩ (fun i σ H' _ ⟨_, _, _, k⟩ => SqL.of (k _ _ hLd.1 hLd.2 b5)) ?_ ?_
  · rintro i y σ H7 H8 hi ⟨v5, rfl, hD7, k7⟩ ⟨rfl, hy⟩
    obtain ⟨p, gp, rfl, m, pa⟩ := four i y hy
    refine ⟨_, rfl, _, rfl, _, rfl, d, g, _, rfl, by decide, by decide, hD7, fun z H9 z0 z1 hD9 k9 => ⟨rfl, .str a, p, some a, gp, _, rfl, sa, pa.keep hD3 (k7.trans k9) (odd_away (a := a) wO gp m), odd_fit do4 gp m, heard_text X.lets (odd_bad do2 gp m) fun t H10 s10 ht => ?_⟩⟩
    have k10 := (k7.trans k9).trans (.of s10)
    have dO10 := dt_any (dt_keep dO3 k10)
    refine ⟨_, _, rfl, .tup ht trivial (.cons (.flat rfl) (.cons dO10 .nil)), shO, _, rfl, two, fun t2 ht2 => ?_⟩
    have s11 := same_new ht2 (.tup [V.str "text", odd])
    refine ⟨_, _, rfl, .tup upd_same trivial (.cons (.flat rfl) (.cons (dt_same dO10 s11) .nil)), shO, rfl, _, rfl, if_fl (by simp) ?_⟩
    exact ⟨_, rfl, hD9.same (s10.trans s11), k10.trans (.of s11)⟩
  rintro σ H7 ⟨v5, rfl, hD7, k7⟩
  refine ⟨_, rfl, three, fun pt hpt => ?_⟩
  have s8 := same_new hpt (.tup [V.str "having", V.str "", V.int 1])
  refine ⟨.str a, pt, some a, .hav (.str "") (some "") 1, _, rfl, sa, ⟨upd_same, strOr_dt (S := fun _ => True) (D := .str "") (.flat rfl) (by decide +kernel)⟩, fun p e => by rw [← Option.some.inj e]; decide +kernel, heard_text X.lets (x := .str "") ?_ fun t H9 s9 ht => ?_⟩
  · show (if okT a (some "") = true ∧ (some "" : Option Str) ≠ some "" then none else some (V.str "")) = some (V.str "")
    rw [if_neg (fun z => z.2 rfl)]
  refine ⟨_, _, rfl, .tup ht trivial (.cons (.flat rfl) (.cons (.flat rfl) .nil)), shE, two, fun t2 ht2 => ?_⟩
  have s11 := same_new ht2 (.tup [V.str "text", V.str ""])
  refine ⟨_, _, rfl, .tup upd_same trivial (.cons (.flat rfl) (.cons (.flat rfl) .nil)), shE, rfl, ?_⟩
  have z := q _ (hD7.same ((s8.trans s9).trans s11)) ((kk3.trans k7).trans (.of ((s8.trans s9).trans s11)))
  rw [decide_eq_true rfl]
  exact z
end
end Vf

set_option Elab.async false
set_option linter.all false
set_option maxRecDepth 100000
set_option maxHeartbeats 4000000
namespace L2
open PySem PySem.Spec PyProof.Rows
/-! ### x in an object with an own __contains__ -/
section
variable {X : Cx} {CX : CXT} {k : Nat} {f C : Addr} {fd : FuncData} {ps : List Str} {sp : Sp} {E : XK} {dvs : List V} {ds : List Value}
def rInO (C : Addr) (sp : Sp) (dvs : List V) (E : XK) : R2 := fun x y H Q => ∃ a dx fs, y = .ref a ∧ H a = some (.ins C dx fs) ∧ sp ([y, x] ++ dvs) H (fun v H' => ∃ b, v = .bl b ∧ Q (.bl b) H') E
theorem op_inO (hm : Meth X.K C "__contains__" f) (F : FnOk X.prog X.w X.K X.mg X.base CX k f fd ps sp) (hr : Room k X.A) (hb : Binds X.K fd ps ds) (hd : Vals dvs ds) (hx : Passes CX X E) :
    OpR X (compareOp .In) (rInO C sp dvs E) := by
  intro pins s σ H x y v u Q I rx ry h
  obtain ⟨a, dx, fs, rfl, ea, q⟩ := h
  obtain rfl : u = Value.ref a := ry
  obtain ⟨mA, O, _, _, _, _⟩ := ins_get I.hok ea
  obtain ⟨od, J, _⟩ := O.look
  have go := run_fn (us := [.ref a, v]) (vs := [.ref a, x]) F hr hb hd hx I (.cons rfl (.cons rx .nil)) q
  refine wpAny_bind ?_
  unfold contains
  refine wpAny_holding (wpAny_bind (wpAny_bind (J.type.here ((PySem.W.looks_findIn I.kIn hm.at_).here ?_))))
  rw [if_neg (by simp)]
  refine wpAny_bind (PySem.W.unlessNone_K I.kIn J hm.at_ hm.fn (wpAny_mono go (fun r s' z => ?_) fun _ _ z => z))
  obtain ⟨v1, H1, I1, r1, b, rfl, q1⟩ := z
  obtain rfl : r = Value.bool b := r1
  exact wpAny_truthy_bool (wpAny_pure ⟨.bl b, H1, I1, rfl, q1⟩)
end
end L2

set_option Elab.async false
set_option linter.all false
set_option maxRecDepth 100000
set_option maxHeartbeats 2000000
namespace Vf
open PySem PySem.Spec PyProof.Rows L2 L2.Vx Vs Vm Vd
/-! ### texts in languages -/
abbrev sLIn : Stmt := inClass clsL 3
def spLIn (K : PySem.W.Frag) (C : Addr) : Sp := fun vs H Q _ => ∃ (p : Addr) (x : Str) (a : Str) (A : List (List Nat)) (e : List Nat), vs = [.ref p, .str x] ∧ LG C H p a A e ∧ Abc a ∧ (∀ c ∈ cp x, c ∈ cp a) ∧ x.length ≤ 100000 ∧ ∀ H', Same H H' → Q (.bl (Wd A e (lets a x))) H'
section
variable {P : Program} {w : World} {K : PySem.W.Frag} {mg : Str → Option Value} {base : Heap} {C : Addr}
theorem scLIn : FnScope ["self", "text"] ["self", "text"] (defScope sLIn) := ⟨rfl, rfl, rfl, by decide +kernel, rfl, by decide +kernel, by decide +kernel⟩
theorem ok_lin {f fT fB : Addr} {fd fdT fdB : FuncData} (F : Fun K "__contains__" "Language.__contains__" sLIn f fd) (T : TxtLg K mg C)
    (GT : FnOk P w K mg base CX0 1 fT fdT ["letters", "thing"] (spText K wordB)) (bT : L2.Binds K fdT ["letters", "thing"] []) (kT : PySem.W.keepIn K (.ref fT) = true) (mT : mg "is_text" = some (.ref fT))
    (GB : FnOk P w K mg base CX0 1 fB fdB ["letters", "rows", "state", "text"] (spBehind K)) (bB : L2.Binds K fdB ["letters", "rows", "state", "text"] []) (kB : PySem.W.keepIn K (.ref fB) = true) (mB : mg "state_behind" = some (.ref fB)) :
    FnOk P w K mg base CX0 2 f fd ["self", "text"] (spLIn K C) := by
  refine F.ok scLIn (fun vs H Q E h => ?_) (fun cdv Ar outer s H vs Q E hr h => ?_)
  · obtain ⟨p, x, a, A, e, rfl, _⟩ := h
    rfl
  obtain ⟨p, x, a, A, e, rfl, hL, X, hin, hx, q⟩ := h
  have hr1 : Room 1 _ := hr.mono (by decide)
  refine ⟨_, (pss_one (ps_ret (pe_and (pe_call GT hr1 rfl mT kT bT .nil pass0 (pa_cons (pe_fld (pv 0) rfl) (pa_cons (pv 1) pa_nil))) (pe_one (pe_cmpR op_in_seq (pe_call GB hr1 rfl mB kB bB .nil pass0 (pa_cons (pe_fld (pv 0) rfl) (pa_cons (pe_fld (pv 0) rfl) (pa_cons pe_int (pa_cons (pv 1) pa_nil))))) (pe_fld (pv 0) rfl) (by rfl)))))), ?_⟩
  obtain ⟨dx, vr, ve, h1, h2, h3⟩ := id hL.at_
  have hal : (cp a).length = a.length := by rw [Array.length_toList]; rfl
  have ok : wordB a x = true := List.all_eq_true.mpr fun c hc => decide_eq_true (hin c hc)
  have sq : Square A (cp a).length := by rw [hal]; exact hL.ok.sq
  refine ⟨_, rfl, p, C, dx, _, _, rfl, h1, T.cl, T.nL, rfl, _, rfl, a, .str x, some x, rfl, ⟨rfl, hx, fun c hc => X.asc c (hin c hc)⟩, X.four.2, fun H1 s1 => ⟨_, rfl, ?_⟩⟩
  refine if_tr ok ?_
  have h1' := s1 _ _ h1
  refine ⟨_, rfl, p, C, dx, _, _, rfl, h1', T.cl, T.nL, rfl, _, rfl, p, C, dx, _, _, rfl, h1', T.cl, T.nR, rfl, _, rfl, a, x, vr, A, 0, rfl, (h2.same s1).R, sq, sq.some, hin, ?_⟩
  obtain ⟨ea, rfl, hse⟩ := h3.same s1
  refine ⟨_, rfl, p, C, dx, _, _, rfl, h1', T.cl, T.nE, rfl, ea, _, rfl, .inr (SqT.of hse), rfl, flats_nI _, ?_⟩
  rw [if_neg (by decide), inv_nI]
  exact q H1 s1
end
end Vf

set_option Elab.async false
set_option linter.all false
set_option maxRecDepth 100000
set_option maxHeartbeats 8000000
namespace Vf
open PySem PySem.Spec PyProof.Rows L2 L2.Vx Vs Vm Vd Mk
/-! ### the law -/
abbrev sLaw : Stmt := top 71
abbrev nLaw : List Str := ["_law_script", "_law_deck_here", "_law_go", "_law_signs_here", "_law_plan_here", "_law_made_here", "_law_some", "_law_bit", "_law_word_here", "_law_again", "_law_k"]
/-- all that is no list is kept -/
def PK (H H' : Hp) : Prop := ∀ b o, H b = some o → (∀ l, o ≠ .lst l) → H' b = some o
theorem PK.trans {H H1 H2 : Hp} (a : PK H H1) (b : PK H1 H2) : PK H H2 := fun c o e n => b c o (a c o e n) n
theorem PK.same {H H' : Hp} (s : Same H H') : PK H H' := fun b o e _ => s b o e
theorem PK.keeps {H H' : Hp} {d g : Addr} (hD : DeckAt H d g) (k : Keeps d g H H') : PK H H' := fun b o e n => by
  obtain ⟨ns, m, x, g1, g2, _⟩ := hD
  refine k b o (fun z => ?_) (fun z => ?_) e
  · subst z
    rw [g1] at e
    exact n _ (Option.some.inj e).symm
  · subst z
    rw [g2] at e
    exact n _ (Option.some.inj e).symm
theorem PK.put {H : Hp} {D : Addr} {l : List V} (h : H D = some (.lst l)) (o : HO) : PK H (upd H D o) := fun b o' e n => by
  rw [upd_ne]
  · exact e
  · intro z
    subst z
    rw [h] at e
    exact n _ (Option.some.inj e).symm
theorem PK.tk {H H' : Hp} (k : PK H H') : TK H H' := fun b ys e => k b _ e (fun l z => nomatch z)
theorem LG.pk {C : Addr} {H H' : Hp} {p : Addr} {a : Str} {A : List (List Nat)} {e : List Nat} (h : LG C H p a A e) (k : PK H H') : LG C H' p a A e := by
  obtain ⟨⟨dx, vr, ve, h1, h2, h3⟩, h4⟩ := h
  exact ⟨⟨dx, vr, ve, k _ _ h1 (fun l z => nomatch z), h2.tk k.tk, h3.tk k.tk⟩, h4⟩
theorem GoodPl.txt {a : Str} {gp : GPlan} (h : GoodPl a gp) : TxtPl gp := by
  cases gp with
  | fin tvs ys =>
    obtain ⟨ts, e1, e2, _⟩ := h
    exact ⟨ts, e1, e2⟩
  | hav tv yt n =>
    obtain ⟨b, e1, e2, _, b2, _⟩ := h
    exact ⟨b, e1, e2, by omega⟩
  | beg tv yt =>
    obtain ⟨b, e1, e2, b2, _⟩ := h
    exact ⟨b, e1, e2, by omega⟩
  | ends tv yt =>
    obtain ⟨b, e1, e2, b2, _⟩ := h
    exact ⟨b, e1, e2, by omega⟩
  | len per es => exact h.1
theorem PlanAt.pk {K : PySem.W.Frag} {H H' : Hp} {p : Addr} {gp : GPlan} (t : TxtPl gp) (h : PlanAt K H p gp) (k : PK H H') : PlanAt K H' p gp := by
  have s := k.tk
  have so : ∀ {v : V} {b : Str}, v = .str b → StrOr K H v (some b) → StrOr K H' v (some b) := fun e h => h
  cases gp with
  | fin tvs ys =>
    obtain ⟨q, h1, h2, h3⟩ := h
    obtain ⟨ts, rfl, rfl⟩ := t
    refine ⟨q, s _ _ h1, s _ _ h2, h3.1, fun i x y e1 e2 => ?_⟩
    have z := h3.2 i x y e1 e2
    rw [List.getElem?_map] at e2
    obtain ⟨b, _, rfl⟩ := Option.map_eq_some_iff.mp e2
    exact z
  | hav tv yt n =>
    obtain ⟨b, rfl, rfl, _⟩ := t
    exact ⟨s _ _ h.1, h.2⟩
  | beg tv yt =>
    obtain ⟨b, rfl, rfl, _⟩ := t
    exact ⟨s _ _ h.1, h.2⟩
  | ends tv yt =>
    obtain ⟨b, rfl, rfl, _⟩ := t
    exact ⟨s _ _ h.1, h.2⟩
  | len per es =>
    obtain ⟨q, h1, h2⟩ := h
    exact ⟨q, s _ _ h1, s _ _ h2⟩
theorem wordB_ov {a b : Str} (h : OvA a b) : wordB a b = true := List.all_eq_true.mpr fun c hc => decide_eq_true (h c hc)
theorem GoodPl.okay {a : Str} {gp : GPlan} (h : GoodPl a gp) : badV a gp = none := by
  cases gp with
  | fin tvs ys =>
    obtain ⟨ts, rfl, rfl, _, h4⟩ := h
    refine bad_none _ _ fun z hz => ?_
    obtain ⟨t, ht, rfl⟩ := List.mem_map.mp hz
    exact wordB_ov (h4 t ht).2
  | hav tv yt n =>
    obtain ⟨b, rfl, rfl, b1, b2, b3, _⟩ := h
    show (if okT a (some b) = true ∧ some b ≠ some "" then none else some (V.str b)) = none
    refine if_pos ⟨wordB_ov b3, fun z => ?_⟩
    rw [Option.some.inj z] at b1
    exact absurd b1 (by decide +kernel)
  | beg tv yt =>
    obtain ⟨b, rfl, rfl, _, b3⟩ := h
    show (if okT a (some b) = true then none else some (V.str b)) = none
    exact if_pos (wordB_ov b3)
  | ends tv yt =>
    obtain ⟨b, rfl, rfl, _, b3⟩ := h
    show (if okT a (some b) = true then none else some (V.str b)) = none
    exact if_pos (wordB_ov b3)
  | len per es => rfl
theorem sum_few : ∀ {ls : List (List Nat)}, (∀ x ∈ ls, x.length ≤ 12) → (ls.map fun x => x.length + 1).sum ≤ ls.length * 13
  | [], _ => Nat.le_refl _
  | x :: r, h => by
    have z := sum_few (ls := r) fun y hy => h y (List.mem_cons_of_mem _ hy)
    have := h x (List.mem_cons_self ..)
    rw [List.map_cons, List.sum_cons, List.length_cons, Nat.succ_mul]
    omega
theorem GoodPl.fit {a : Str} {gp : GPlan} (h : GoodPl a gp) : FitP gp := by
  cases gp with
  | fin tvs ys =>
    obtain ⟨ts, rfl, rfl, h3, h4⟩ := h
    have tl : (ts.map some).length ≤ 12 := by rw [List.length_map]; omega
    refine ⟨by rw [List.length_map]; exact h3, ⟨?_, tl⟩, fun _ y hy => ?_⟩
    · have z := sum_few (ls := wsOf (ts.map some)) fun x hx => by
        unfold wsOf at hx
        rw [List.map_map] at hx
        obtain ⟨t, ht, rfl⟩ := List.mem_map.mp hx
        show (cp t).length ≤ 12
        rw [← len_cp]
        exact (h4 t ht).1
      have l : (wsOf (ts.map some)).length ≤ 12 := by unfold wsOf; rw [List.length_map]; exact tl
      omega
    · obtain ⟨t, ht, rfl⟩ := List.mem_map.mp hy
      exact fun z => nomatch z
  | hav tv yt n =>
    obtain ⟨b, rfl, rfl, b1, b2, b3, hn⟩ := h
    intro p e
    rw [← Option.some.inj e]
    exact Nat.le_trans (Nat.mul_le_mul (show n + 1 ≤ 7 by omega) (show b.length + 1 ≤ 13 by omega)) (by decide)
  | beg tv yt =>
    obtain ⟨b, rfl, rfl, b2, b3⟩ := h
    intro p e
    rw [← Option.some.inj e]
    omega
  | ends tv yt =>
    obtain ⟨b, rfl, rfl, b2, b3⟩ := h
    intro p e
    rw [← Option.some.inj e]
    omega
  | len per es =>
    obtain ⟨h1, h2, _⟩ := h
    exact ⟨h1, by omega⟩
theorem back_lets {a x : Str} (h : OvA a x) : back (cp a) (lets a x) = cp x := by
  unfold back lets
  rw [List.map_map]
  refine (List.map_congr_left fun c hc => ?_).trans (List.map_id _)
  have m := h c hc
  have lt := List.idxOf_lt_length_of_mem m
  show (cp a).getD ((cp a).idxOf c) 0 = c
  rw [List.getD_eq_getElem?_getD, List.getElem?_eq_getElem lt]
  exact List.getElem_idxOf lt
theorem fit_nats {ns : List Nat} {m n : Nat} (h : ∀ x ∈ ns, x < m) (hm : m ≤ 10 ^ 10) (hl : ns.length ≤ n) : Fit (n * 12 + 3) 1 (natsT ns) := by
  refine (fit_tup (b := 10) (e := 0) (ds := ns.map fun n => .int (n : Nat)) fun x hx => ?_).le ?_ (Nat.le_refl _)
  · obtain ⟨y, hy, rfl⟩ := List.mem_map.mp hx
    have := h y hy
    exact fit_int (by omega) (by omega)
  · rw [List.length_map]
    omega
theorem fit_mach {B : List (List Nat)} {k : Nat} {e : List Nat} (M : Mach B k e) (hk : k ≤ 4) (hB : B.length ≤ 900) : Fit 50000 2 (rowsT B) ∧ Fit 50000 2 (natsT e) := by
  have el := nodup_lt _ _ M.nodup M.lt
  constructor
  · refine (fit_tup (b := 4 * 12 + 3) (e := 1) (ds := B.map natsT) fun x hx => ?_).le ?_ (Nat.le_refl _)
    · obtain ⟨r, hr, rfl⟩ := List.mem_map.mp hx
      exact fit_nats (m := 1000) (fun y hy => Nat.lt_of_lt_of_le (M.sq.inn r hr y hy) M.sq.few) (by decide) (by rw [M.sq.wide r hr]; exact hk)
    · rw [List.length_map]
      omega
  · exact (fit_nats (m := 1000) (n := 900) (fun y hy => Nat.lt_of_lt_of_le (M.lt y hy) M.sq.few) (by decide) (by omega)).le (by decide) (by decide)
def OkW (a : Str) (ws : List Str) : Prop := ws.length ≤ 60000 ∧ ∀ w ∈ ws, w.length ≤ 1000 ∧ OvA a w
theorem OvA.app {a x y : Str} (h1 : OvA a x) (h2 : OvA a y) : OvA a (x ++ y) := fun c hc => by
  rw [cp_app] at hc
  rcases List.mem_append.mp hc with h | h
  · exact h1 c h
  · exact h2 c h
theorem len_app (x y : Str) : (x ++ y).length = x.length + y.length := by
  rw [len_cp, cp_app, List.length_append, ← len_cp, ← len_cp]
theorem deck_ne {H : Hp} {d g r : Addr} {ws : List Str} (hD : DeckAt H d g) (h : H r = some (.lst (ws.map V.str))) (hne : ws ≠ []) : r ≠ d ∧ r ≠ g := by
  obtain ⟨ns, m, n, g1, g2, _⟩ := hD
  cases ws with
  | nil => exact absurd rfl hne
  | cons y ys =>
    constructor
    · intro z
      subst z
      rw [g1] at h
      have e := HO.lst.inj (Option.some.inj h)
      exact nomatch (List.cons.inj e).1
    · intro z
      subst z
      rw [g2] at h
      have e := HO.lst.inj (Option.some.inj h)
      cases ns with
      | nil => exact nomatch e
      | cons n ns => exact nomatch (List.cons.inj e).1
theorem plan_cases {K : PySem.W.Frag} {H : Hp} {p : Addr} {x : Str} {gp : GPlan} (h : PlanAt K H p gp) (g : GoodPl x gp) :
    (∃ (b : Str) (rest : List V) (tag : Str), H p = some (.tup (.str tag :: .str b :: rest)) ∧ inV (.str tag) [.str "having", .str "beginning", .str "ending"] = true ∧ (tag == ("finite" : Str)) = false ∧ b.length ≤ 12 ∧ OvA x b) ∨
    (∃ (ts : List Str) (q : Addr), H p = some (.tup [.str "finite", .ref q]) ∧ H q = some (.tup (ts.map .str)) ∧ ts.length ≤ 12 ∧ ∀ t ∈ ts, t.length ≤ 12 ∧ OvA x t) ∨
    (∃ rest : List V, H p = some (.tup (.str "lengths" :: rest))) := by
  cases gp with
  | fin tvs ys =>
    obtain ⟨ts, rfl, rfl, h3, h4⟩ := g
    obtain ⟨q, h1, h2, _⟩ := h
    exact .inr (.inl ⟨ts, q, h1, h2, by omega, h4⟩)
  | hav tv yt n =>
    obtain ⟨b, rfl, rfl, b1, b2, b3, hn⟩ := g
    exact .inl ⟨b, _, _, h.1, by decide +kernel, by decide +kernel, b2, b3⟩
  | beg tv yt =>
    obtain ⟨b, rfl, rfl, b2, b3⟩ := g
    exact .inl ⟨b, _, _, h.1, by decide +kernel, by decide +kernel, b2, b3⟩
  | ends tv yt =>
    obtain ⟨b, rfl, rfl, b2, b3⟩ := g
    exact .inl ⟨b, _, _, h.1, by decide +kernel, by decide +kernel, b2, b3⟩
  | len per es =>
    obtain ⟨q, h1, _⟩ := h
    exact .inr (.inr ⟨_, h1⟩)
theorem mulOk_seven {b : Str} (h : b.length ≤ 12) : MulOk b 7 := by
  have z := mulOk_of (z := cp b) (n := 7) (by rw [← len_cp]; omega) (by decide)
  rw [← eta_S b] at z
  exact z
theorem mul_seven {x b : Str} (h : b.length ≤ 12) (o : OvA x b) : (Txt.mul b 7).length ≤ 1000 ∧ OvA x (Txt.mul b 7) := by
  have e : Txt.mul b 7 = mkS (times 7 (cp b)) := by
    have z := mul_times (cp b) 7
    rw [← eta_S b] at z
    exact z
  rw [e]
  refine ⟨?_, fun c hc => o c (times_mem hc)⟩
  rw [mkS_length, times_length, ← len_cp]
  omega
structure TxtLaw (K : PySem.W.Frag) (mg : Str → Option Value) (C fK fS fPl fH fW fV fFa fWd fDu fRr : Addr) : Prop extends TxtLg K mg C where
  deck : mg "_law_deck" = some (.ref fK)
  signs : mg "_law_signs" = some (.ref fS)
  plan : mg "_law_plan" = some (.ref fPl)
  heard : mg "_law_heard" = some (.ref fH)
  draw : mg "_law_draw" = some (.ref fW)
  every : mg "_law_every" = some (.ref fV)
  far : mg "_law_far" = some (.ref fFa)
  word : mg "_law_word" = some (.ref fWd)
  due : mg "_law_is_due" = some (.ref fDu)
  refused : mg "_law_refused_right" = some (.ref fRr)
  gL : mg "Language" = some (.ref C)
  range : mg "range" = none
  str : mg "str" = none
  list : mg "list" = none
  rep : mg "repr" = none
  isi : mg "isinstance" = none
  tuple : mg "tuple" = none
  ca : PySem.W.findIn K (.ref C) "__class__" = some (some (.builtin "object.__class__"))
  cn : PySem.W.specialIn K (.builtin "object.__class__") "__get__" = some (some (.builtin "getset_descriptor.__get__"))
  ct : PySem.W.takesIn K (.builtin "object.__class__") = some true
  cm : PySem.W.mroIn K C (.type "object") = some true
  kT : PySem.W.kitOne K (.ref C) (.type "tuple") = some false
def spLaw (K : PySem.W.Frag) : Sp := fun vs H Q _ => ∃ (a : Addr) (ns : List Int), vs = [.ref a] ∧ SqL K H a (ns.map V.int) ∧ ns.length ≤ 63 ∧ ∀ H', Q (.bl true) H'
section
variable {P : Program} {w : World} {K : PySem.W.Frag} {mg : Str → Option Value} {base : Heap} {C fK fS fPl fH fW fV fFa fWd fDu fRr fI fL fC : Addr} {fdK fdS fdPl fdH fdW fdV fdFa fdWd fdDu fdRr fdI fdL fdC : FuncData}
theorem scLaw : FnScope nLaw ["_law_script"] (defScope sLaw) := ⟨rfl, rfl, rfl, by decide +kernel, rfl, by decide +kernel, by decide +kernel⟩
theorem ok_law {f : Addr} {fd : FuncData} (F : Fun K "law" "law" sLaw f fd) (T : TxtLaw K mg C fK fS fPl fH fW fV fFa fWd fDu fRr)
    (GK : FnOk P w K mg base CX0 1 fK fdK ["_law_script"] (spDeck K)) (bK : L2.Binds K fdK ["_law_script"] []) (kK : PySem.W.keepIn K (.ref fK) = true)
    (GS : FnOk P w K mg base CX0 2 fS fdS ["_law_deck_here", "_law_limit"] spSigns) (bS : L2.Binds K fdS ["_law_deck_here", "_law_limit"] []) (kS : PySem.W.keepIn K (.ref fS) = true)
    (GPl : FnOk P w K mg base CX0 4 fPl fdPl ["_law_deck_here", "_law_signs_here"] (spPl K)) (bPl : L2.Binds K fdPl ["_law_deck_here", "_law_signs_here"] []) (kPl : PySem.W.keepIn K (.ref fPl) = true)
    (GH : FnOk P w K mg base CX0 10 fH fdH ["_law_signs_here", "_law_plan_here", "_law_by_name"] (spHe K C)) (bH : L2.Binds K fdH ["_law_signs_here", "_law_plan_here", "_law_by_name"] []) (kH : PySem.W.keepIn K (.ref fH) = true)
    (GW : FnOk P w K mg base CX0 1 fW fdW ["_law_deck_here", "_law_below"] spDraw) (bW : L2.Binds K fdW ["_law_deck_here", "_law_below"] []) (kW : PySem.W.keepIn K (.ref fW) = true)
    (GV : FnOk P w K mg base CX0 1 fV fdV ["_law_signs_here", "_law_far_here"] spEvery) (bV : L2.Binds K fdV ["_law_signs_here", "_law_far_here"] []) (kV_ : PySem.W.keepIn K (.ref fV) = true)
    (GF : FnOk P w K mg base CX0 1 fFa fdFa ["_law_signs_here"] spFar) (bF : L2.Binds K fdFa ["_law_signs_here"] []) (kF : PySem.W.keepIn K (.ref fFa) = true)
    (GD : FnOk P w K mg base CX0 3 fWd fdWd ["_law_deck_here", "_law_signs_here", "_law_far_here"] spWd) (bD : L2.Binds K fdWd ["_law_deck_here", "_law_signs_here", "_law_far_here"] []) (kD : PySem.W.keepIn K (.ref fWd) = true)
    (GU : FnOk P w K mg base CX0 2 fDu fdDu ["_law_plan_here", "_law_word_here"] (spDu K)) (bU : L2.Binds K fdDu ["_law_plan_here", "_law_word_here"] []) (kU : PySem.W.keepIn K (.ref fDu) = true)
    (GR : FnG P w K mg base 11 fRr fdRr ["_law_deck_here", "_law_signs_here"] spRr) (bR : L2.Binds K fdRr ["_law_deck_here", "_law_signs_here"] []) (kR : PySem.W.keepIn K (.ref fRr) = true)
    (M : Mk K C fI) (GI : FnOk P w K mg base CX0 5 fI fdI ["self", "letters", "rows", "ends"] (spLMake C)) (bI : L2.Binds K fdI ["self", "letters", "rows", "ends"] [])
    (mL : Meth K C "__len__" fL) (GL : FnOk P w K mg base CX0 1 fL fdL ["self"] (spLLen C)) (bL : L2.Binds K fdL ["self"] [])
    (mC : Meth K C "__contains__" fC) (GC : FnOk P w K mg base CX0 2 fC fdC ["self", "text"] (spLIn K C)) (bC : L2.Binds K fdC ["self", "text"] []) :
    FnG P w K mg base 12 f fd ["_law_script"] (spLaw K) := by
  refine FunG F scLaw (fun vs H Q E h => ?_) (fun cdv A outer s H vs Q E hr hg h => ?_)
  · obtain ⟨a, ns, rfl, _⟩ := h
    rfl
  obtain ⟨a, ns, rfl, hS, h63, k⟩ := h
  have hr1 : Room 1 _ := hr.mono (by decide)
  have hr2 : Room 2 _ := hr.mono (by decide)
  have hr3 : Room 3 _ := hr.mono (by decide)
  have hr4 : Room 4 _ := hr.mono (by decide)
  have hr6 : Room 6 _ := hr.mono (by decide)
  have hr10 : Room 10 _ := hr.mono (by decide)
  have hu : (A.deeper (envOfC "law" (defScope sLaw) s.heap.objs.size f cdv)).units + 100 < cLine := by
    have z := hr.un
    omega
  refine ⟨_, (pss_cons (ps_set (i := 1) scLaw.nd rfl (Or.inr rfl) (pe_call GK hr1 rfl T.deck kK bK .nil pass0 (pa_cons (pv 0) pa_nil)))
    (pss_cons (ps_for PassesOwn.never rfl (pi_range1 rfl T.range (pa_cons pe_int pa_nil)) (pg_name (i := 2) scLaw.nd rfl (Or.inl rfl)) (pss_cons (ps_set (i := 3) scLaw.nd rfl (Or.inr rfl) (pe_call GS hr2 rfl T.signs kS bS .nil pass0 (pa_cons (pv 1) (pa_cons pe_int pa_nil))))
    (pss_cons (ps_set (i := 4) scLaw.nd rfl (Or.inl rfl) (pe_call GPl hr4 rfl T.plan kPl bPl .nil pass0 (pa_cons (pv 1) (pa_cons (pv 3) pa_nil))))
    (pss_cons (ps_set (i := 5) scLaw.nd rfl (Or.inl rfl) (pe_call GH hr10 rfl T.heard kH bH .nil pass0 (pa_cons (pv 3) (pa_cons (pv 4) (pa_cons (pe_cmpR op_eq (pe_call GW hr1 rfl T.draw kW bW .nil pass0 (pa_cons (pv 1) (pa_cons pe_int pa_nil))) pe_int (nomark _)) pa_nil)))))
    (pss_cons (ps_set (i := 6) scLaw.nd rfl (Or.inl rfl) (pe_op op_cat (pe_call GV hr1 rfl T.every kV_ bV .nil pass0 (pa_cons (pv 3) (pa_cons (pe_call GF hr1 rfl T.far kF bF .nil pass0 (pa_cons (pv 3) pa_nil)) pa_nil))) (pe_lc (own := [("_law_k", 10)]) (g := gName 10) (tt := tYes) rfl scLaw.nd (pi_range1 rfl T.range (pa_cons pe_int pa_nil)) (blkOk_by (N := nLaw) (sc := (defScope sLaw)) (by decide +kernel)) (fun _ _ _ _ _ => pg_name (i := 10) scLaw.nd rfl (Or.inl rfl)) (fun _ _ _ _ _ => pts_nil) (fun _ _ _ _ _ => by exact (pe_call GD hr3 rfl T.word kD bD .nil pass0 (pa_cons (pv 1) (pa_cons (pv 3) (pa_cons pe_int pa_nil))))))))
    (C8.pss_cut (ps_if (pt_cmpR op_in_seq (pe_ix ix_tup (pv 4) pe_int (fun _ _ => rfl)) (pe_tup (pa_cons pe_str (pa_cons pe_str (pa_cons pe_str pa_nil)))) (by rfl)) (pss_cons (ps_set (i := 7) scLaw.nd rfl (Or.inl rfl) (pe_callTy SkE.call_str_str (by rfl) T.str (by decide +kernel) (pa_cons (pe_ix ix_tup (pv 4) pe_int (fun _ _ => rfl)) pa_nil)))
    (pss_one (ps_expr (pe_bm PySem.F.plainAttrs_list PySem.F.slot_list_extend PySem.F.type_list_extend mt_extend (pv 6) (pa_cons (pe_lst (pa_cons (pe_op op_mul_str (pv 7) pe_int) (pa_cons (pe_op op_add_str (pv 7) (pe_call GD hr3 rfl T.word kD bD .nil pass0 (pa_cons (pv 1) (pa_cons (pv 3) (pa_cons pe_int pa_nil))))) (pa_cons (pe_op op_add_str (pe_call GD hr3 rfl T.word kD bD .nil pass0 (pa_cons (pv 1) (pa_cons (pv 3) (pa_cons pe_int pa_nil)))) (pv 7)) pa_nil)))) pa_nil))))) pss_nil) (C8.pss_cut (ps_if (pt_cmpR op_eq (pe_ix ix_tup (pv 4) pe_int (fun _ _ => rfl)) pe_str (nomark _)) (pss_one (ps_expr (pe_bm PySem.F.plainAttrs_list PySem.F.slot_list_extend PySem.F.type_list_extend mt_extend (pv 6) (pa_cons (pe_op op_cat (pe_callTy call_list_of (by rfl) T.list (by decide +kernel) (pa_cons (pe_ix ix_tup (pv 4) pe_int (fun _ _ => rfl)) pa_nil)) (pe_lc (own := [("_law_word_here", 8)]) (g := gName 8) (tt := tYes) rfl scLaw.nd (pi_tup (pe_ix ix_tup (pv 4) pe_int (fun _ _ => rfl))) (blkOk_by (N := nLaw) (sc := (defScope sLaw)) (by decide +kernel)) (fun _ _ _ _ _ => pg_name (i := 8) scLaw.nd rfl (Or.inl rfl)) (fun _ _ _ _ _ => pts_nil) (fun _ _ _ _ _ => by exact (pe_op op_add_str (pv 8) (pe_ix ix_str (pv 3) pe_int (fun _ _ => rfl)))))) pa_nil)))) pss_nil) (pss_cons (ps_for PassesOwn.never rfl (pi_list (pv 6)) (pg_name (i := 8) scLaw.nd rfl (Or.inl rfl)) (pss_one (ps_if (pt_cmpR op_ne (pe_callB (call_rep hg hu (fun _ => True)) (by rfl) T.rep (by decide +kernel) (pa_cons (pe_cmpR (op_inO mC GC hr2 bC .nil pass0) (pv 8) (pv 5) (by rfl)) pa_nil)) (pe_callB (call_rep hg hu (fun _ => True)) (by rfl) T.rep (by decide +kernel) (pa_cons (pe_call GU hr2 rfl T.due kU bU .nil pass0 (pa_cons (pv 4) (pa_cons (pv 8) pa_nil))) pa_nil)) (nomark _)) (pss_one (ps_ret pe_bl)) pss_nil)))
    (pss_cons (ps_if (PW.pt (pw_or (pt_val (pe_callB call_isi (by rfl) T.isi (by decide +kernel) (pa_cons (pv 5) (pa_cons (pe_bltn (v := .ty "tuple") (u := .type "tuple") (by rfl) T.tuple (by decide +kernel) rfl) pa_nil)))) (pw_or (pt_cmpR op_ne (pe_fld (pv 5) rfl) (pv 3) (nomark _)) (pw_or1 (pt_not (pt_val (pe_callG GR len_rr hg hr rfl T.refused kR bR .nil pass0 (pa_cons (pv 1) (pa_cons (pv 3) pa_nil))))))))) (pss_one (ps_ret pe_bl)) pss_nil)
    (pss_cons (ps_set (i := 9) scLaw.nd rfl (Or.inl rfl) (pe_make M GI hr6 (by rfl) T.gL bI .nil pass0 (pa_cons (pv 3) (pa_cons (pe_fld (pv 5) rfl) (pa_cons (pe_fld (pv 5) rfl) pa_nil)))))
    (pss_one (ps_if (pt_cmpR op_ne (pe_callB (call_rep hg hu (fun _ => True)) (by rfl) T.rep (by decide +kernel) (pa_cons (pe_lst (pa_cons (pe_fld (pv 5) rfl) (pa_cons (pe_fld (pv 5) rfl) (pa_cons (pe_callB (call_lenO mL GL hr2 bL .nil pass0) (by rfl) T.len PySem.boot_len (pa_cons (pv 5) pa_nil)) pa_nil)))) pa_nil)) (pe_callB (call_rep hg hu (fun _ => True)) (by rfl) T.rep (by decide +kernel) (pa_cons (pe_lst (pa_cons (pe_fld (pv 9) rfl) (pa_cons (pe_fld (pv 9) rfl) (pa_cons (pe_callB (call_lenO mL GL hr2 bL .nil pass0) (by rfl) T.len PySem.boot_len (pa_cons (pv 9) pa_nil)) pa_nil)))) pa_nil)) (nomark _)) (pss_one (ps_ret pe_bl)) pss_nil))))))))))))
    (pss_one (ps_ret pe_bl)))), ?_⟩
  refine ⟨_, rfl, a, ns, rfl, hS, h63, fun d g H1 s1 nd ng hD1 => ?_⟩
  refine ⟨8, rfl, by decide, by decide, for_range (lo := 0) (n := 8) (fun i σ H' => ∃ v2 v3 v4 v5 v6 v7 v8 v9, σ = [some (.ref a), some (.ref d), v2, v3, v4, v5, v6, v7, v8, v9, none] ∧ DeckAt H' d g) ⟨none, none, none, none, none, none, none, none, rfl, hD1⟩ ?_ ?_⟩
  · rintro i σ H2 hi ⟨v2, v3, v4, v5, v6, v7, v8, v9, rfl, hD2⟩
    refine ⟨_, rfl, d, g, 4, rfl, by decide, by decide, hD2, fun x H3 hlet hx4 h8 hD3 k3 => ?_⟩
    have X : Abc x := ⟨hlet, h8⟩
    obtain ⟨x1, _⟩ := X.four
    refine ⟨_, rfl, _, rfl, d, g, x, rfl, X, hD3, fun p gp H4 hP hG hD4 k4 => ?_⟩
    have k34 := PK.keeps hD3 k4
    refine to_name (σ' := [some (.ref a), some (.ref d), some (.int (0 + (i : Nat))), some (.str x), some (.ref p), v5, v6, v7, v8, v9, none]) rfl ?_
    generalize some (V.int (0 + (i : Nat))) = vg
    have hP5 : ∀ {Hx : Hp}, PK H4 Hx → PlanAt K Hx p gp := fun z => hP.pk hG.txt z
    refine ⟨_, rfl, _, rfl, _, rfl, d, g, _, rfl, by decide, by decide, hD4, fun z H5 z0 z1 hD5 k5 => ⟨rfl, .str x, p, some x, gp, _, rfl, ⟨rfl, by omega, h8⟩, hP5 (PK.keeps hD4 k5), hG.fit, ⟨fun c => absurd ((show okL (some x) = true from hlet).symm.trans c) (by decide), fun a' e c y b => ?_, fun a' e c b q R eR H6 s6 L W few => ?_⟩⟩⟩
    · obtain rfl := Option.some.inj e
      rw [hG.okay] at b
      exact nomatch b
    obtain rfl := Option.some.inj e
    have hal : (cp x).length = x.length := by rw [Array.length_toList]; rfl
    have p46 := (PK.keeps hD4 k5).trans (PK.same s6)
    have hD6 := hD5.same s6
    clear e c b k34
    refine to_name (σ' := [some (.ref a), some (.ref d), vg, some (.str x), some (.ref p), some (.ref q), v6, v7, v8, v9, none]) rfl ?_
    have pw : x.length ^ farN x.length ≤ 4096 ∧ farN x.length ≤ 12 := by
      have : x.length = 1 ∨ x.length = 2 ∨ x.length = 3 ∨ x.length = 4 := by omega
      rcases this with e | e | e | e <;> rw [e] <;> decide
    refine ⟨_, rfl, _, rfl, x, rfl, x1, hx4, fun H7 s7 => ⟨x, farN x.length, rfl, x1, hx4, pw.2, pw.1, fun r0 ws H8 s8 hr0 hov hlen hne => ⟨6, rfl, by decide, by decide, fun D hDn => ?_⟩⟩⟩
    have hD8 := hD6.same (s7.trans s8)
    have L8 := L.same (s7.trans s8)
    have p48 := p46.trans (PK.same (s7.trans s8))
    have nr0 := deck_ne hD8 hr0 hne
    have nD := hD8.dn hDn
    refine lc_it walk_range (fun i H' => ∃ us : List Str, H' D = some (.lst (us.map V.str)) ∧ us.length = i ∧ (∀ t ∈ us, t.length ≤ 1000 ∧ OvA x t) ∧ DeckAt H' d g ∧ Keeps d g H8 H') ⟨[], upd_same, rfl, (fun _ h => nomatch h), hD8.same (same_new hDn _), .of (same_new hDn _)⟩ (fun _ _ _ _ => trivial) ?_ ?_
    · rintro j y H9 H10 hj ⟨us, m1, m2, m3, hD9, k9⟩ ⟨rfl, rfl⟩
      have hj : j < 6 := hj
      refine ⟨rfl, _, rfl, _, rfl, d, g, x, 30, rfl, x1, hx4, by decide, hD9, fun t H11 ht1 ht2 hD11 k11 => ?_⟩
      refine ⟨_, k11 _ _ nD.1 nD.2 m1, by rw [List.length_map, m2, sizeLine_eq]; omega, us ++ [t], ?_, by rw [List.length_append, m2]; rfl, ?_, hD11.other nD.1 nD.2 _, fun b o n1 n2 e => ?_⟩
      · rw [upd_same, List.map_append]
        rfl
      · intro y hy
        rcases List.mem_append.mp hy with hy | hy
        · exact m3 y hy
        · rw [List.mem_singleton.mp hy]
          exact ⟨by omega, ht2⟩
      · rw [upd_ne (ne_of_none e hDn)]
        exact k11 b o n1 n2 (k9 b o n1 n2 e)
    rintro H9 ⟨us, m1, m2, m3, hD9, k9⟩
    have m2 : us.length = 6 := m2
    have er0 := k9 _ _ nr0.1 nr0.2 hr0
    have L9 := L8.pk (PK.keeps hD8 k9)
    have p49 := p48.trans (PK.keeps hD8 k9)
    refine ⟨r0, D, ws.map V.str, us.map V.str, rfl, rfl, er0, m1, ?_, fun r hrn => ?_⟩
    · rw [List.length_map, List.length_map, sizeLine_eq]
      omega
    have hrd := hD9.dn hrn
    have s10 := same_new hrn (.lst (ws.map V.str ++ us.map V.str))
    have er := upd_same (H := H9) (a := r) (o := .lst (ws.map V.str ++ us.map V.str))
    rw [← List.map_append] at s10 er ⊢
    have ok10 : OkW x (ws ++ us) := by
      refine ⟨by rw [List.length_append]; omega, fun t ht => ?_⟩
      rcases List.mem_append.mp ht with h | h
      · exact ⟨Nat.le_trans (hov t h).1 (by have := pw.2; omega), (hov t h).2⟩
      · exact m3 t h
    refine to_name (σ' := [some (.ref a), some (.ref d), vg, some (.str x), some (.ref p), some (.ref q), some (.ref r), v7, v8, v9, none]) rfl ?_
    have ln10 : (ws ++ us).length ≤ 53300 := by rw [List.length_append]; omega
    generalize ws ++ us = ws1 at s10 er ok10 ln10 ⊢
    generalize upd H9 r (.lst (ws1.map V.str)) = H10 at s10 er ⊢
    have hD10 := hD9.same s10
    have L10 := L9.same s10
    have P10 := hP5 (p49.trans (PK.same s10))
    clear hP5 p46 p48 p49 m1 m3 er0 L9 L8 L hP s10 k9 hD9 hD8 hr0 hov nr0 nD hDn
    have three : 3 ≤ sizeLine := by decide
    obtain ⟨J, hJ⟩ : ∃ J : L2.St → Hp → Prop, J = fun σ H' => ∃ (ws : List Str) (v7 v8 v9 : Option V), σ = [some (.ref a), some (.ref d), vg, some (.str x), some (.ref p), some (.ref q), some (.ref r), v7, v8, v9, none] ∧ H' r = some (.lst (ws.map V.str)) ∧ OkW x ws ∧ ws.length ≤ 59000 ∧ DeckAt H' d g ∧ PK H10 H' := ⟨_, rfl⟩
    have a_0 : ∀ (y : V) (l : List V), atI (y :: l) 0 = some y := fun y l => atI_nat (j := 0) rfl
    have a_1 : ∀ (y z : V) (l : List V), atI (y :: z :: l) 1 = some z := fun y z l => atI_nat (j := 1) rfl
    refine ⟨J, ?_, ?_⟩
    · rw [hJ]
      rcases plan_cases P10 hG with ⟨b, rest, tag, e1, e2, e3, b2, b3⟩ | ⟨ts, qq, e1, e2, e3, e4⟩ | ⟨rest, e1⟩
      · refine ⟨_, rfl, p, _, _, _, rfl, rfl, SqT.of e1, a_0 _ _, three, fun tq htq => ⟨tq, _, rfl, .inr (SqT.of upd_same), rfl, rfl, _, rfl, if_tr e2 ?_⟩⟩
        have s11 := same_new htq (.tup [V.str "having", V.str "beginning", V.str "ending"])
        have e1' := s11 _ _ e1
        have er' := s11 _ _ er
        have hD11 := hD10.same s11
        have p11 := PK.same s11
        generalize upd H10 tq (.tup [V.str "having", V.str "beginning", V.str "ending"]) = H11 at s11 e1' er' hD11 p11 ⊢
        refine ⟨_, rfl, p, _, _, _, rfl, rfl, SqT.of e1', a_1 _ _ _, b, rfl, ?_⟩
        refine to_name (σ' := [some (.ref a), some (.ref d), vg, some (.str x), some (.ref p), some (.ref q), some (.ref r), some (.str b), v8, v9, none]) rfl ?_
        refine ⟨_, rfl, .inl ⟨rfl, _, SqL.of er'⟩, _, rfl, b, 7, rfl, rfl, mulOk_seven b2, _, rfl, _, rfl, _, rfl, d, g, x, 9, rfl, x1, hx4, by decide, hD11, fun y H12 hy1 hy2 hD12 k12 => ⟨_, _, rfl, rfl, by rw [sizeLine_eq]; omega, _, rfl, _, rfl, d, g, x, 9, rfl, x1, hx4, by decide, hD12, fun z H13 hz1 hz2 hD13 k13 => ⟨_, rfl, _, _, rfl, rfl, by rw [sizeLine_eq]; omega, three, fun D hD => ?_⟩⟩⟩
        have s14 := same_new hD (.lst [V.str (Txt.mul b 7), V.str (b ++ y), V.str (z ++ b)])
        have er13 := s14 _ _ (k13 _ _ hrd.1 hrd.2 (k12 _ _ hrd.1 hrd.2 er'))
        have p13 := (p11.trans (PK.keeps hD11 k12)).trans ((PK.keeps hD12 k13).trans (PK.same s14))
        obtain ⟨m1, m2⟩ := mul_seven b2 b3
        refine ⟨r, D, _, _, rfl, rfl, er13, upd_same, ?_, ws1 ++ [Txt.mul b 7, b ++ y, z ++ b], _, _, _, rfl, ?_, ⟨?_, fun t ht => ?_⟩, ?_, (hD13.same s14).other hrd.1 hrd.2 _, p13.trans (PK.put er13 _)⟩
        · rw [List.length_map, sizeLine_eq]
          show _ + 3 ≤ _
          omega
        · rw [upd_same, List.map_append]
          rfl
        · rw [List.length_append]
          show _ + 3 ≤ _
          omega
        · rcases List.mem_append.mp ht with h | h
          · exact ok10.2 t h
          · simp only [List.mem_cons, List.not_mem_nil, or_false] at h
            rcases h with rfl | rfl | rfl
            · exact ⟨m1, m2⟩
            · exact ⟨by rw [len_app]; omega, b3.app hy2⟩
            · exact ⟨by rw [len_app]; omega, OvA.app (a := x) hz2 b3⟩
        · rw [List.length_append]
          show _ + 3 ≤ _
          omega
      · refine ⟨_, rfl, p, _, _, _, rfl, rfl, SqT.of e1, a_0 _ _, three, fun tq htq => ⟨tq, _, rfl, .inr (SqT.of upd_same), rfl, rfl, _, rfl, if_fl (by decide +kernel) ?_⟩⟩
        have s11 := same_new htq (.tup [V.str "having", V.str "beginning", V.str "ending"])
        exact ⟨ws1, _, _, _, rfl, s11 _ _ er, ok10, by omega, hD10.same s11, PK.same s11⟩
      · refine ⟨_, rfl, p, _, _, _, rfl, rfl, SqT.of e1, a_0 _ _, three, fun tq htq => ⟨tq, _, rfl, .inr (SqT.of upd_same), rfl, rfl, _, rfl, if_fl (by decide +kernel) ?_⟩⟩
        have s11 := same_new htq (.tup [V.str "having", V.str "beginning", V.str "ending"])
        exact ⟨ws1, _, _, _, rfl, s11 _ _ er, ok10, by omega, hD10.same s11, PK.same s11⟩
    rintro σ H11 hJ1
    rw [hJ] at hJ1
    obtain ⟨ws2, v7', v8', v9', rfl, er2, ok2, ln2, hD11, p11⟩ := hJ1
    refine ⟨fun σ H' => ∃ (ws : List Str) (v7 v8 v9 : Option V), σ = [some (.ref a), some (.ref d), vg, some (.str x), some (.ref p), some (.ref q), some (.ref r), v7, v8, v9, none] ∧ H' r = some (.lst (ws.map V.str)) ∧ OkW x ws ∧ DeckAt H' d g ∧ PK H10 H', ?_, ?_⟩
    · have P11 := P10.pk hG.txt p11
      rcases plan_cases P11 hG with ⟨b, rest, tag, e1, e2, e3, b2, b3⟩ | ⟨ts, qq, e1, e2, e3, e4⟩ | ⟨rest, e1⟩
      · refine ⟨_, rfl, p, _, _, _, rfl, rfl, SqT.of e1, a_0 _ _, rfl, _, rfl, if_fl (tag_ne e3) ?_⟩
        exact ⟨ws2, _, _, _, rfl, er2, ok2, hD11, p11⟩
      · refine ⟨_, rfl, p, _, _, _, rfl, rfl, SqT.of e1, a_0 _ _, rfl, _, rfl, if_tr (decide_eq_true rfl) ?_⟩
        refine ⟨_, rfl, .inl ⟨rfl, _, SqL.of er2⟩, _, rfl, p, _, _, _, rfl, rfl, SqT.of e1, a_1 _ _ _, qq, _, rfl, .inr (SqT.of e2), fun l hl => ?_⟩
        have s12 := same_new hl (.lst (ts.map V.str))
        have f1 := s12 _ _ e1
        have f2 := s12 _ _ e2
        have f3 := s12 _ _ er2
        have f4 := upd_same (H := H11) (a := l) (o := .lst (ts.map V.str))
        have hD12 := hD11.same s12
        have p12 := p11.trans (PK.same s12)
        generalize upd H11 l (.lst (ts.map V.str)) = H12 at s12 f1 f2 f3 f4 hD12 p12 ⊢
        obtain ⟨c0, hc0⟩ : ∃ c0, (cp x)[0]? = some c0 := ⟨_, List.getElem?_eq_getElem (by omega)⟩
        refine ⟨_, rfl, p, _, _, _, rfl, rfl, SqT.of f1, a_1 _ _ _, qq, rfl, ⟨_, SqT.of f2⟩, fun D hD => ?_⟩
        refine lc_it (walk_tup (xs := ts.map V.str)) (fun j H' => H' D = some (.lst (((ts.take j).map fun t => t ++ mkS [c0]).map V.str)) ∧ Same H12 H') ⟨upd_same, same_new hD _⟩ (fun j H' _ ⟨_, s⟩ => SqT.of (s _ _ f2)) ?_ ?_
        · rintro j y H13 H14 hj ⟨m1, m2⟩ ⟨rfl, hy⟩
          rw [List.getElem?_map] at hy
          obtain ⟨t, ht, rfl⟩ := Option.map_eq_some_iff.mp hy
          rw [List.length_map] at hj
          have t12 := (e4 t (List.mem_of_getElem? ht)).1
          refine ⟨rfl, _, rfl, _, rfl, x, 0, _, rfl, rfl, by rw [sizeLine_eq]; omega, atI_nat (j := 0) hc0, _, _, rfl, rfl, ?_, _, m1, ?_, ?_, fun b' o' e' => ?_⟩
          · show t.length + 1 ≤ _
            rw [sizeLine_eq]
            omega
          · rw [List.length_map, List.length_map, sizeLine_eq]
            have := List.length_take_le' j ts
            omega
          · rw [upd_same, List.take_add_one, ht, List.map_append, List.map_append]
            rfl
          · rw [upd_ne (ne_of_none e' hD)]
            exact m2 _ _ e'
        rintro H13 ⟨m1, m2⟩
        rw [List.length_map, List.take_length] at m1
        refine ⟨l, D, _, _, rfl, rfl, m2 _ _ f4, m1, ?_, fun l3 hl3 => ?_⟩
        · rw [List.length_map, List.length_map, List.length_map, sizeLine_eq]
          omega
        have s14 := same_new hl3 (.lst (ts.map V.str ++ ((ts.map fun t => t ++ mkS [c0]).map V.str)))
        have f5 := s14 _ _ (m2 _ _ f3)
        refine ⟨r, l3, _, _, rfl, rfl, f5, upd_same, ?_, ws2 ++ (ts ++ ts.map fun t => t ++ mkS [c0]), _, _, _, rfl, ?_, ⟨?_, fun t ht => ?_⟩, (hD12.same (m2.trans s14)).other hrd.1 hrd.2 _, p12.trans ((PK.same (m2.trans s14)).trans (PK.put f5 _))⟩
        · rw [List.length_append, List.length_map, List.length_map, List.length_map, List.length_map, sizeLine_eq]
          omega
        · rw [upd_same, List.map_append, List.map_append]
        · rw [List.length_append, List.length_append, List.length_map]
          omega
        · rcases List.mem_append.mp ht with h | h
          · exact ok2.2 t h
          rcases List.mem_append.mp h with h | h
          · exact ⟨by have := (e4 t h).1; omega, (e4 t h).2⟩
          · obtain ⟨u, hu', rfl⟩ := List.mem_map.mp h
            refine ⟨?_, (e4 u hu').2.app fun c hc => ?_⟩
            · rw [len_app]
              have := (e4 u hu').1
              have e0 : (mkS [c0]).length = 1 := mkS_length _
              omega
            · obtain rfl := List.mem_singleton.mp hc
              exact List.mem_of_getElem? hc0
      · refine ⟨_, rfl, p, _, _, _, rfl, rfl, SqT.of e1, a_0 _ _, rfl, _, rfl, if_fl (tag_ne (by decide +kernel)) ?_⟩
        exact ⟨ws2, _, _, _, rfl, er2, ok2, hD11, p11⟩
    rintro σ H12 ⟨ws3, v7'', v8'', v9'', rfl, er3, ok3, hD12, p12⟩
    have dB : ∀ {Hx : Hp} (z : Bool), Dt Hx (fun _ => True) (.bl z) (.bool z) := fun z => .flat (show FlatD (.bl z) (.bool z) from rfl)
    have shB : ∀ z : Bool, Shows (.bool z) := fun z => by
      cases z
      · exact ⟨rfl, (by decide +kernel : (PyData.shown (.bool false)).length ≤ 1000000), by simp [PyData.depth]⟩
      · exact ⟨rfl, (by decide +kernel : (PyData.shown (.bool true)).length ≤ 1000000), by simp [PyData.depth]⟩
    have P12 := P10.pk hG.txt p12
    have L12 := L10.pk p12
    refine ⟨_, rfl, r, rfl, ⟨_, SqL.of er3⟩, ?_⟩
    refine for_it (walk_list (xs := ws3.map V.str)) (fun j σ H' => ∃ v8 : Option V, σ = [some (.ref a), some (.ref d), vg, some (.str x), some (.ref p), some (.ref q), some (.ref r), v7'', v8, v9'', none] ∧ Same H12 H') ⟨_, rfl, Same.refl _⟩ (fun j σ H' _ ⟨_, _, s⟩ => SqL.of (s _ _ er3)) ?_ ?_
    · rintro j y σ H13 H14 hj ⟨v8, rfl, s13⟩ ⟨rfl, hy⟩
      rw [List.getElem?_map] at hy
      obtain ⟨t, ht, rfl⟩ := Option.map_eq_some_iff.mp hy
      obtain ⟨t1, t2⟩ := ok3.2 t (List.mem_of_getElem? ht)
      have L13 := L12.same s13
      obtain ⟨dx, vr, ve, g1, g2, g3⟩ := id L13.at_
      refine ⟨_, rfl, _, rfl, q, dx, _, rfl, g1, q, t, x, R, eR, rfl, L13, X, t2, by omega, fun H15 s15 => ⟨_, rfl, _, _, rfl, dB _, shB _, ?_⟩⟩
      have s25 := s13.trans s15
      refine ⟨_, rfl, _, rfl, p, gp, t, rfl, P12.pk hG.txt (PK.same s25), hG.txt, by omega, fun H16 s16 => ⟨_, _, rfl, dB _, shB _, rfl, _, rfl, if_fl ?_ ⟨_, rfl, s25.trans s16⟩⟩⟩
      have e : Wd R eR (lets x t) = decide (due gp (cp t)) := by
        have z := W (lets x t) (by rw [← hal]; exact lets_lt t2)
        rw [back_lets t2] at z
        rw [Bool.eq_iff_iff, decide_eq_true_iff]
        exact z
      rw [e]
      simp
    rintro σ H13 ⟨v8, rfl, s13⟩
    have L13 := L12.same s13
    have hD13 := hD12.same s13
    obtain ⟨dx, vr, ve, g1, g2, g3⟩ := id L13.at_
    have tyL : TyX K H13 (.ref q) (.ref C) := .base (.ins g1 T.cl T.ca T.cn T.ct T.cm)
    refine ⟨_, rfl, _, _, _, _, _, rfl, .ty _, tyL, T.kT, _, rfl, if_fl rfl ?_⟩
    refine ⟨_, rfl, q, C, dx, _, _, rfl, g1, T.cl, T.nL, rfl, _, rfl, rfl, _, rfl, if_fl (by simp) ?_⟩
    refine ⟨_, rfl, _, rfl, d, g, x, rfl, X, hD13, fun H14 hD14 k14 => ⟨_, rfl, if_fl rfl ?_⟩⟩
    have L14 := L13.pk (PK.keeps hD13 k14)
    clear g1 g2 g3
    obtain ⟨dx, vr, ve, g1, g2, g3⟩ := id L14.at_
    refine ⟨_, rfl, _, rfl, q, C, dx, _, _, rfl, g1, T.cl, T.nR, rfl, _, rfl, q, C, dx, _, _, rfl, g1, T.cl, T.nE, rfl, fun p2 px hp2 hpx hpne => lang_make L14.mach X.lets X.asc g2 g3 hp2 hpx hpne fun B1 e1 H15 s15 hL K1 K2 => ⟨rfl, ?_⟩⟩
    obtain ⟨rfl, rfl⟩ := least_uniq K1 L14.ok K2
    refine to_name (σ' := [some (.ref a), some (.ref d), vg, some (.str x), some (.ref p), some (.ref q), some (.ref r), v7'', v8, some (.ref p2), none]) rfl ?_
    have L15 := L14.same s15
    clear g1 g2 g3
    obtain ⟨dx, vr, ve, g1, g2, g3⟩ := id L15.at_
    obtain ⟨dx2, wr, we, i1, i2, i3⟩ := id hL
    obtain ⟨ft1, ft2⟩ := fit_mach L15.mach hx4 few
    have mfew := L15.mach.sq.few
    have fi : Fit 50000 2 (.int (B1.length : Nat)) := (fit_int (by omega) (by omega)).le (by decide) (by decide)
    have shw : Shows (.list [rowsT B1, natsT e1, .int (B1.length : Nat)]) := (fit_lst (b := 50000) (e := 2) (ds := [rowsT B1, natsT e1, .int (B1.length : Nat)]) fun y hy => by
      simp only [List.mem_cons, List.not_mem_nil, or_false] at hy
      rcases hy with rfl | rfl | rfl
      · exact ft1
      · exact ft2
      · exact fi).shows (show 3 * (50000 + 2) + 3 ≤ 1000000 by decide) (by decide)
    have dI : ∀ {Hx : Hp} (n : Nat), Dt Hx (fun _ => True) (.int (n : Nat)) (.int (n : Nat)) := fun n => .flat (show FlatD (.int (n : Nat)) (.int (n : Nat)) from rfl)
    refine ⟨_, rfl, q, C, dx, _, _, rfl, g1, T.cl, T.nR, rfl, _, rfl, q, C, dx, _, _, rfl, g1, T.cl, T.nE, rfl, _, rfl, q, dx, _, rfl, g1, ⟨q, x, B1, e1, rfl, L15.at_, _, rfl, by omega, by omega, three, fun pl hpl => ?_⟩⟩
    have s16 := same_new hpl (.lst [vr, ve, .int (B1.length : Nat)])
    refine ⟨_, _, rfl, .lst upd_same trivial (.cons (g2.same s16).dt (.cons (g3.same s16).dt (.cons (dI _) .nil))), shw, ?_⟩
    have j1 := s16 _ _ i1
    refine ⟨_, rfl, p2, C, dx2, _, _, rfl, j1, T.cl, T.nR, rfl, _, rfl, p2, C, dx2, _, _, rfl, j1, T.cl, T.nE, rfl, _, rfl, p2, dx2, _, rfl, j1, ⟨p2, x, B1, e1, rfl, hL.same s16, _, rfl, by omega, by omega, three, fun pl2 hpl2 => ?_⟩⟩
    have s17 := same_new hpl2 (.lst [wr, we, .int (B1.length : Nat)])
    refine ⟨_, _, rfl, .lst upd_same trivial (.cons ((i2.same s16).same s17).dt (.cons ((i3.same s16).same s17).dt (.cons (dI _) .nil))), shw, rfl, _, rfl, if_fl (by simp) ?_⟩
    exact ⟨_, _, _, _, _, _, _, _, rfl, ((hD14.same s15).same s16).same s17⟩
  rintro σ H2 ⟨v2, v3, v4, v5, v6, v7, v8, v9, rfl, hD2⟩
  exact k H2
end
end Vf

set_option Elab.async false
set_option linter.all false
set_option maxRecDepth 100000
set_option maxHeartbeats 4000000
namespace L2
namespace Vx
open PySem PySem.Spec PyProof.Rows _root_.Vx
/-! ### what the top has written of a class over Exception -/
def clsOk (K : PySem.W.Frag) (C : Addr) : Bool :=
  PySem.W.findIn K (.ref C) "__setattr__" == some (some (.builtin "object.__setattr__")) && (PySem.W.findIn K (.ref C) "__getattribute__" == some (some (.builtin "BaseException.__getattribute__")) && (PySem.W.findIn K (.ref C) "__getattr__" == some none &&
  (PySem.W.findIn K (.ref C) "__class__" == some (some (.builtin "object.__class__")) && (PySem.W.specialIn K (.builtin "object.__class__") "__get__" == some (some (.builtin "getset_descriptor.__get__")) && (PySem.W.takesIn K (.builtin "object.__class__") == some true &&
  (PySem.W.mroIn K C (.type "object") == some true && (PySem.W.subIn K (.ref C) (.type "BaseException") == some true && (PySem.W.typeIn K (.ref C) == some (.type "type") && (PySem.W.hasDictIn K C && PySem.W.keepIn K (.ref C))))))))))
theorem oexE_of {K : PySem.W.Frag} {C CP : Addr} {nm q : Str} {N : Addr} {bs : List Value} {sn : List Str} {sub : List Value} {ab : Bool} {col : Option Bool} {dd : Option Addr} {k0 k1 k2 k3 k5 : Option Value}
    (x : K.lookup C = some (excClassObj nm q C N bs [.ref CP, .type "Exception", .type "BaseException", .type "object"] true sn sub ab col dd k0 k1 k2 k3 k5 "Exception.__new__")) (h : clsOk K C = true) : OexE K C := by
  unfold clsOk at h
  obtain ⟨h1, h⟩ := Bool.and_eq_true_iff.mp h
  obtain ⟨h2, h⟩ := Bool.and_eq_true_iff.mp h
  obtain ⟨h3, h⟩ := Bool.and_eq_true_iff.mp h
  obtain ⟨h4, h⟩ := Bool.and_eq_true_iff.mp h
  obtain ⟨h5, h⟩ := Bool.and_eq_true_iff.mp h
  obtain ⟨h6, h⟩ := Bool.and_eq_true_iff.mp h
  obtain ⟨h7, h⟩ := Bool.and_eq_true_iff.mp h
  obtain ⟨h8, h⟩ := Bool.and_eq_true_iff.mp h
  obtain ⟨h9, h⟩ := Bool.and_eq_true_iff.mp h
  obtain ⟨h10, h11⟩ := Bool.and_eq_true_iff.mp h
  exact ⟨⟨nm, q, N, bs, _, sn, sub, ab, col, dd, k0, k1, k2, k3, k5, x, by rfl⟩, eq_of_beq h1, eq_of_beq h2, eq_of_beq h3, eq_of_beq h4, eq_of_beq h5, eq_of_beq h6, eq_of_beq h7, eq_of_beq h8, eq_of_beq h9, h10, h11⟩
end Vx
end L2

set_option Elab.async false
set_option linter.all false
set_option maxRecDepth 100000
set_option maxHeartbeats 4000000
namespace Vf
open PySem PySem.Spec PyProof.Rows L2 L2.Vx
section
variable {P : Program} {w : World} {K : PySem.W.Frag} {mg : Str → Option Value} {base : Heap}
theorem exK_CB {C f : Addr} {oc : Value} {od an : Option Addr} {osl : Array (Option Value)} {kV doc pm cdv ct : Value} (T : OexE K C) (no : PySem.W.findIn K (.ref C) "part" = some none) (iC : PySem.W.findIn K (.ref C) "__init__" = some (some (.ref f))) (tI : PySem.W.typeIn K (.ref f) = some (.type "function"))
    (l : K.lookup f = some ⟨oc, od, .func (PySem.W.fnOf "__init__" "BadLanguage.__init__" (defArgs sBadLang) (defBody sBadLang) (defScope sBadLang) .none kV doc pm an cdv ct), osl⟩) (c : PySem.W.codeIn K cdv "BadLanguage.__init__" = true) (k : PySem.W.keepIn K (.ref f) = true) : ExK P w K mg base C "part" 1 := by
  refine ⟨T, no, f, PySem.W.fnOf "__init__" "BadLanguage.__init__" (defArgs sBadLang) (defBody sBadLang) (defScope sBadLang) .none kV doc pm an cdv ct, iC, tI, ?_, fun s a u => .of_eq rfl, fun s a u => .of_eq rfl⟩
  have sc : FnScope ["self", "part"] ["self", "part"] (defScope sBadLang) := ⟨rfl, rfl, rfl, by decide +kernel, rfl, by decide +kernel, by decide +kernel⟩
  refine (fun_mk (st := sBadLang) l c k).ok sc (fun vs H Q E h => ?_) (fun cdv A outer s H vs Q E hr h => ?_)
  · obtain ⟨a, v, rfl, _⟩ := h
    rfl
  obtain ⟨a, v, rfl, ha, q⟩ := h
  exact ⟨_, pss_one (ps_ostE (pv 0) (pv 1)), _, rfl, _, rfl, a, C, rfl, T, no, ha, q⟩
theorem exK_CT {C f : Addr} {oc : Value} {od an : Option Addr} {osl : Array (Option Value)} {kV doc pm cdv ct : Value} (T : OexE K C) (no : PySem.W.findIn K (.ref C) "value" = some none) (iC : PySem.W.findIn K (.ref C) "__init__" = some (some (.ref f))) (tI : PySem.W.typeIn K (.ref f) = some (.type "function"))
    (l : K.lookup f = some ⟨oc, od, .func (PySem.W.fnOf "__init__" "BadText.__init__" (defArgs sBadText) (defBody sBadText) (defScope sBadText) .none kV doc pm an cdv ct), osl⟩) (c : PySem.W.codeIn K cdv "BadText.__init__" = true) (k : PySem.W.keepIn K (.ref f) = true) : ExK P w K mg base C "value" 1 := by
  refine ⟨T, no, f, PySem.W.fnOf "__init__" "BadText.__init__" (defArgs sBadText) (defBody sBadText) (defScope sBadText) .none kV doc pm an cdv ct, iC, tI, ?_, fun s a u => .of_eq rfl, fun s a u => .of_eq rfl⟩
  have sc : FnScope ["self", "value"] ["self", "value"] (defScope sBadText) := ⟨rfl, rfl, rfl, by decide +kernel, rfl, by decide +kernel, by decide +kernel⟩
  refine (fun_mk (st := sBadText) l c k).ok sc (fun vs H Q E h => ?_) (fun cdv A outer s H vs Q E hr h => ?_)
  · obtain ⟨a, v, rfl, _⟩ := h
    rfl
  obtain ⟨a, v, rfl, ha, q⟩ := h
  exact ⟨_, pss_one (ps_ostE (pv 0) (pv 1)), _, rfl, _, rfl, a, C, rfl, T, no, ha, q⟩
theorem all_mk {l : PySem.W.OpenLaw} {h : Heap} {fa : Addr} (X : K.In h) (G : h.Ns mainGlobals mg) (hfa : mg "law" = some (.ref fa))
    {fwh : Addr} {ocwh : Value} {odwh anwh : Option Addr} {slwh : Array (Option Value)} {kVwh dcwh pmwh cdwh ctwh : Value} {fac : Addr} {ocac : Value} {odac anac : Option Addr} {slac : Array (Option Value)} {kVac dcac pmac cdac ctac : Value} {fst : Addr} {ocst : Value} {odst anst : Option Addr} {slst : Array (Option Value)} {kVst dcst pmst cdst ctst : Value} {frw : Addr} {ocrw : Value} {odrw anrw : Option Addr} {slrw : Array (Option Value)} {kVrw dcrw pmrw cdrw ctrw : Value} {frs : Addr} {ocrs : Value} {odrs anrs : Option Addr} {slrs : Array (Option Value)} {kVrs dcrs pmrs cdrs ctrs : Value} {fen : Addr} {ocen : Value} {oden anen : Option Addr} {slen : Array (Option Value)} {kVen dcen pmen cden cten : Value} {ffl : Addr} {ocfl : Value} {odfl anfl : Option Addr} {slfl : Array (Option Value)} {kVfl dcfl pmfl cdfl ctfl : Value} {fbh : Addr} {ocbh : Value} {odbh anbh : Option Addr} {slbh : Array (Option Value)} {kVbh dcbh pmbh cdbh ctbh : Value} {fsr : Addr} {ocsr : Value} {odsr ansr : Option Addr} {slsr : Array (Option Value)} {kVsr dcsr pmsr cdsr ctsr : Value} {fsa : Addr} {ocsa : Value} {odsa ansa : Option Addr} {slsa : Array (Option Value)} {kVsa dcsa pmsa cdsa ctsa : Value} {fso : Addr} {ocso : Value} {odso anso : Option Addr} {slso : Array (Option Value)} {kVso dcso pmso cdso ctso : Value} {fhi : Addr} {ochi : Value} {odhi anhi : Option Addr} {slhi : Array (Option Value)} {kVhi dchi pmhi cdhi cthi : Value} {fsp : Addr} {ocsp : Value} {odsp ansp : Option Addr} {slsp : Array (Option Value)} {kVsp dcsp pmsp cdsp ctsp : Value} {fcl : Addr} {occl : Value} {odcl ancl : Option Addr} {slcl : Array (Option Value)} {kVcl dccl pmcl cdcl ctcl : Value} {flm : Addr} {oclm : Value} {odlm anlm : Option Addr} {sllm : Array (Option Value)} {kVlm dclm pmlm cdlm ctlm : Value} {fle : Addr} {ocle : Value} {odle anle : Option Addr} {slle : Array (Option Value)} {kVle dcle pmle cdle ctle : Value} {ftx : Addr} {octx : Value} {odtx antx : Option Addr} {sltx : Array (Option Value)} {kVtx dctx pmtx cdtx cttx : Value} {fck : Addr} {occk : Value} {odck anck : Option Addr} {slck : Array (Option Value)} {kVck dcck pmck cdck ctck : Value} {fmd : Addr} {ocmd : Value} {odmd anmd : Option Addr} {slmd : Array (Option Value)} {kVmd dcmd pmmd cdmd ctmd : Value} {fmr : Addr} {ocmr : Value} {odmr anmr : Option Addr} {slmr : Array (Option Value)} {kVmr dcmr pmmr cdmr ctmr : Value} {ffz : Addr} {ocfz : Value} {odfz anfz : Option Addr} {slfz : Array (Option Value)} {kVfz dcfz pmfz cdfz ctfz : Value} {fft : Addr} {ocft : Value} {odft anft : Option Addr} {slft : Array (Option Value)} {kVft dcft pmft cdft ctft : Value} {fbg : Addr} {ocbg : Value} {odbg anbg : Option Addr} {slbg : Array (Option Value)} {kVbg dcbg pmbg cdbg ctbg : Value} {feg : Addr} {oceg : Value} {odeg aneg : Option Addr} {sleg : Array (Option Value)} {kVeg dceg pmeg cdeg cteg : Value} {fls : Addr} {ocls : Value} {odls anls : Option Addr} {slls : Array (Option Value)} {kVls dcls pmls cdls ctls : Value} {fK : Addr} {ocK : Value} {odK anK : Option Addr} {slK : Array (Option Value)} {kVK dcK pmK cdK ctK : Value} {fW : Addr} {ocW : Value} {odW anW : Option Addr} {slW : Array (Option Value)} {kVW dcW pmW cdW ctW : Value} {fQ : Addr} {ocQ : Value} {odQ anQ : Option Addr} {slQ : Array (Option Value)} {kVQ dcQ pmQ cdQ ctQ : Value} {fS : Addr} {ocS : Value} {odS anS : Option Addr} {slS : Array (Option Value)} {kVS dcS pmS cdS ctS : Value} {fV : Addr} {ocV : Value} {odV anV : Option Addr} {slV : Array (Option Value)} {kVV dcV pmV cdV ctV : Value} {fF : Addr} {ocF : Value} {odF anF : Option Addr} {slF : Array (Option Value)} {kVF dcF pmF cdF ctF : Value} {fD : Addr} {ocD : Value} {odD anD : Option Addr} {slD : Array (Option Value)} {kVD dcD pmD cdD ctD : Value} {fST : Addr} {ocST : Value} {odST anST : Option Addr} {slST : Array (Option Value)} {kVST dcST pmST cdST ctST : Value} {fU : Addr} {ocU : Value} {odU anU : Option Addr} {slU : Array (Option Value)} {kVU dcU pmU cdU ctU : Value} {fPL : Addr} {ocPL : Value} {odPL anPL : Option Addr} {slPL : Array (Option Value)} {kVPL dcPL pmPL cdPL ctPL : Value} {fFN : Addr} {ocFN : Value} {odFN anFN : Option Addr} {slFN : Array (Option Value)} {kVFN dcFN pmFN cdFN ctFN : Value} {fMA : Addr} {ocMA : Value} {odMA anMA : Option Addr} {slMA : Array (Option Value)} {kVMA dcMA pmMA cdMA ctMA : Value} {fHE : Addr} {ocHE : Value} {odHE anHE : Option Addr} {slHE : Array (Option Value)} {kVHE dcHE pmHE cdHE ctHE : Value} {fRR : Addr} {ocRR : Value} {odRR anRR : Option Addr} {slRR : Array (Option Value)} {kVRR dcRR pmRR cdRR ctRR : Value} {fX : Addr} {ocX : Value} {odX anX : Option Addr} {slX : Array (Option Value)} {kVX dcX pmX cdX ctX : Value} {LC : Addr} {fmc : Addr} {ocmc : Value} {odmc anmc : Option Addr} {slmc : Array (Option Value)} {kVmc dcmc pmmc cdmc ctmc : Value} {fml : Addr} {ocml : Value} {odml anml : Option Addr} {slml : Array (Option Value)} {kVml dcml pmml cdml ctml : Value} {fki : Addr} {ocki : Value} {odki anki : Option Addr} {slki : Array (Option Value)} {kVki dcki pmki cdki ctki : Value} {fhv : Addr} {ochv : Value} {odhv anhv : Option Addr} {slhv : Array (Option Value)} {kVhv dchv pmhv cdhv cthv : Value} {Dhv : Addr} {ocDhv : Value} {odDhv : Option Addr} {nDhv : Nat} {slDhv : Array (Option Value)} {tkhv0 : Tok} {CErr : Addr} {CB NCB : Addr} {nmCB qnCB : Str} {bsCB : List Value} {snCB : List Str} {subCB : List Value} {abCB : Bool} {colCB : Option Bool} {ddCB : Option Addr} {k0CB k1CB k2CB k3CB k5CB : Option Value} {fICB : Addr} {ocICB : Value} {odICB anICB : Option Addr} {slICB : Array (Option Value)} {kVICB dcICB pmICB cdICB ctICB : Value} {CT NCT : Addr} {nmCT qnCT : Str} {bsCT : List Value} {snCT : List Str} {subCT : List Value} {abCT : Bool} {colCT : Option Bool} {ddCT : Option Addr} {k0CT k1CT k2CT k3CT k5CT : Option Value} {fICT : Addr} {ocICT : Value} {odICT anICT : Option Addr} {slICT : Array (Option Value)} {kVICT dcICT pmICT cdICT ctICT : Value}
    (awh : PySem.W.nsIn K mainGlobals "is_whole" = some (some (.ref fwh)))
    (lwh : K.lookup fwh = some ⟨ocwh, odwh, .func (PySem.W.fnOf "is_whole" "is_whole" (defArgs sWhole) (defBody sWhole) (defScope sWhole) .none kVwh dcwh pmwh anwh cdwh ctwh), slwh⟩)
    (cwh : PySem.W.codeIn K cdwh "is_whole" = true)
    (kwh : PySem.W.keepIn K (.ref fwh) = true)
    (aac : PySem.W.nsIn K mainGlobals "is_ascending" = some (some (.ref fac)))
    (lac : K.lookup fac = some ⟨ocac, odac, .func (PySem.W.fnOf "is_ascending" "is_ascending" (defArgs sAsc) (defBody sAsc) (defScope sAsc) .none kVac dcac pmac anac cdac ctac), slac⟩)
    (cac : PySem.W.codeIn K cdac "is_ascending" = true)
    (kac : PySem.W.keepIn K (.ref fac) = true)
    (ast : PySem.W.nsIn K mainGlobals "is_state" = some (some (.ref fst)))
    (lst : K.lookup fst = some ⟨ocst, odst, .func (PySem.W.fnOf "is_state" "is_state" (defArgs sState) (defBody sState) (defScope sState) .none kVst dcst pmst anst cdst ctst), slst⟩)
    (cst : PySem.W.codeIn K cdst "is_state" = true)
    (kst : PySem.W.keepIn K (.ref fst) = true)
    (arw : PySem.W.nsIn K mainGlobals "is_row" = some (some (.ref frw)))
    (lrw : K.lookup frw = some ⟨ocrw, odrw, .func (PySem.W.fnOf "is_row" "is_row" (defArgs sRow) (defBody sRow) (defScope sRow) .none kVrw dcrw pmrw anrw cdrw ctrw), slrw⟩)
    (crw : PySem.W.codeIn K cdrw "is_row" = true)
    (krw : PySem.W.keepIn K (.ref frw) = true)
    (ars : PySem.W.nsIn K mainGlobals "is_rows" = some (some (.ref frs)))
    (lrs : K.lookup frs = some ⟨ocrs, odrs, .func (PySem.W.fnOf "is_rows" "is_rows" (defArgs sRows) (defBody sRows) (defScope sRows) .none kVrs dcrs pmrs anrs cdrs ctrs), slrs⟩)
    (crs : PySem.W.codeIn K cdrs "is_rows" = true)
    (krs : PySem.W.keepIn K (.ref frs) = true)
    (aen : PySem.W.nsIn K mainGlobals "is_ends" = some (some (.ref fen)))
    (len : K.lookup fen = some ⟨ocen, oden, .func (PySem.W.fnOf "is_ends" "is_ends" (defArgs sEnds) (defBody sEnds) (defScope sEnds) .none kVen dcen pmen anen cden cten), slen⟩)
    (cen : PySem.W.codeIn K cden "is_ends" = true)
    (ken : PySem.W.keepIn K (.ref fen) = true)
    (afl : PySem.W.nsIn K mainGlobals "end_flags" = some (some (.ref ffl)))
    (lfl : K.lookup ffl = some ⟨ocfl, odfl, .func (PySem.W.fnOf "end_flags" "end_flags" (defArgs sFlags) (defBody sFlags) (defScope sFlags) .none kVfl dcfl pmfl anfl cdfl ctfl), slfl⟩)
    (cfl : PySem.W.codeIn K cdfl "end_flags" = true)
    (kfl : PySem.W.keepIn K (.ref ffl) = true)
    (abh : PySem.W.nsIn K mainGlobals "state_behind" = some (some (.ref fbh)))
    (lbh : K.lookup fbh = some ⟨ocbh, odbh, .func (PySem.W.fnOf "state_behind" "state_behind" (defArgs sBehind) (defBody sBehind) (defScope sBehind) .none kVbh dcbh pmbh anbh cdbh ctbh), slbh⟩)
    (cbh : PySem.W.codeIn K cdbh "state_behind" = true)
    (kbh : PySem.W.keepIn K (.ref fbh) = true)
    (asr : PySem.W.nsIn K mainGlobals "states_reached" = some (some (.ref fsr)))
    (lsr : K.lookup fsr = some ⟨ocsr, odsr, .func (PySem.W.fnOf "states_reached" "states_reached" (defArgs sReach) (defBody sReach) (defScope sReach) .none kVsr dcsr pmsr ansr cdsr ctsr), slsr⟩)
    (csr : PySem.W.codeIn K cdsr "states_reached" = true)
    (ksr : PySem.W.keepIn K (.ref fsr) = true)
    (asa : PySem.W.nsIn K mainGlobals "started_at" = some (some (.ref fsa)))
    (lsa : K.lookup fsa = some ⟨ocsa, odsa, .func (PySem.W.fnOf "started_at" "started_at" (defArgs sStarted) (defBody sStarted) (defScope sStarted) .none kVsa dcsa pmsa ansa cdsa ctsa), slsa⟩)
    (csa : PySem.W.codeIn K cdsa "started_at" = true)
    (ksa : PySem.W.keepIn K (.ref fsa) = true)
    (aso : PySem.W.nsIn K mainGlobals "sources_of" = some (some (.ref fso)))
    (lso : K.lookup fso = some ⟨ocso, odso, .func (PySem.W.fnOf "sources_of" "sources_of" (defArgs sSrc) (defBody sSrc) (defScope sSrc) .none kVso dcso pmso anso cdso ctso), slso⟩)
    (cso : PySem.W.codeIn K cdso "sources_of" = true)
    (kso : PySem.W.keepIn K (.ref fso) = true)
    (ahi : PySem.W.nsIn K mainGlobals "hits_of" = some (some (.ref fhi)))
    (lhi : K.lookup fhi = some ⟨ochi, odhi, .func (PySem.W.fnOf "hits_of" "hits_of" (defArgs sHits) (defBody sHits) (defScope sHits) .none kVhi dchi pmhi anhi cdhi cthi), slhi⟩)
    (chi : PySem.W.codeIn K cdhi "hits_of" = true)
    (khi : PySem.W.keepIn K (.ref fhi) = true)
    (asp : PySem.W.nsIn K mainGlobals "smaller_part" = some (some (.ref fsp)))
    (lsp : K.lookup fsp = some ⟨ocsp, odsp, .func (PySem.W.fnOf "smaller_part" "smaller_part" (defArgs sPart) (defBody sPart) (defScope sPart) .none kVsp dcsp pmsp ansp cdsp ctsp), slsp⟩)
    (csp : PySem.W.codeIn K cdsp "smaller_part" = true)
    (ksp : PySem.W.keepIn K (.ref fsp) = true)
    (acl : PySem.W.nsIn K mainGlobals "classes_of" = some (some (.ref fcl)))
    (lcl : K.lookup fcl = some ⟨occl, odcl, .func (PySem.W.fnOf "classes_of" "classes_of" (defArgs sCls) (defBody sCls) (defScope sCls) .none kVcl dccl pmcl ancl cdcl ctcl), slcl⟩)
    (ccl : PySem.W.codeIn K cdcl "classes_of" = true)
    (kcl : PySem.W.keepIn K (.ref fcl) = true)
    (alm : PySem.W.nsIn K mainGlobals "least_machine" = some (some (.ref flm)))
    (llm : K.lookup flm = some ⟨oclm, odlm, .func (PySem.W.fnOf "least_machine" "least_machine" (defArgs sLeast) (defBody sLeast) (defScope sLeast) .none kVlm dclm pmlm anlm cdlm ctlm), sllm⟩)
    (clm : PySem.W.codeIn K cdlm "least_machine" = true)
    (klm : PySem.W.keepIn K (.ref flm) = true)
    (ale : PySem.W.nsIn K mainGlobals "is_letters" = some (some (.ref fle)))
    (lle : K.lookup fle = some ⟨ocle, odle, .func (PySem.W.fnOf "is_letters" "is_letters" (defArgs sLet) (defBody sLet) (defScope sLet) .none kVle dcle pmle anle cdle ctle), slle⟩)
    (cle : PySem.W.codeIn K cdle "is_letters" = true)
    (kle : PySem.W.keepIn K (.ref fle) = true)
    (atx : PySem.W.nsIn K mainGlobals "is_text" = some (some (.ref ftx)))
    (ltx : K.lookup ftx = some ⟨octx, odtx, .func (PySem.W.fnOf "is_text" "is_text" (defArgs sText) (defBody sText) (defScope sText) .none kVtx dctx pmtx antx cdtx cttx), sltx⟩)
    (ctx : PySem.W.codeIn K cdtx "is_text" = true)
    (ktx : PySem.W.keepIn K (.ref ftx) = true)
    (ack : PySem.W.nsIn K mainGlobals "check" = some (some (.ref fck)))
    (lck : K.lookup fck = some ⟨occk, odck, .func (PySem.W.fnOf "check" "check" (defArgs sCk) (defBody sCk) (defScope sCk) .none kVck dcck pmck anck cdck ctck), slck⟩)
    (cck : PySem.W.codeIn K cdck "check" = true)
    (kck : PySem.W.keepIn K (.ref fck) = true)
    (amd : PySem.W.nsIn K mainGlobals "matched" = some (some (.ref fmd)))
    (lmd : K.lookup fmd = some ⟨ocmd, odmd, .func (PySem.W.fnOf "matched" "matched" (defArgs sMd) (defBody sMd) (defScope sMd) .none kVmd dcmd pmmd anmd cdmd ctmd), slmd⟩)
    (cmd : PySem.W.codeIn K cdmd "matched" = true)
    (kmd : PySem.W.keepIn K (.ref fmd) = true)
    (amr : PySem.W.nsIn K mainGlobals "matching_rows" = some (some (.ref fmr)))
    (lmr : K.lookup fmr = some ⟨ocmr, odmr, .func (PySem.W.fnOf "matching_rows" "matching_rows" (defArgs sMr) (defBody sMr) (defScope sMr) .none kVmr dcmr pmmr anmr cdmr ctmr), slmr⟩)
    (cmr : PySem.W.codeIn K cdmr "matching_rows" = true)
    (kmr : PySem.W.keepIn K (.ref fmr) = true)
    (afz : PySem.W.nsIn K mainGlobals "frozen" = some (some (.ref ffz)))
    (lfz : K.lookup ffz = some ⟨ocfz, odfz, .func (PySem.W.fnOf "frozen" "frozen" (defArgs sFz) (defBody sFz) (defScope sFz) .none kVfz dcfz pmfz anfz cdfz ctfz), slfz⟩)
    (cfz : PySem.W.codeIn K cdfz "frozen" = true)
    (kfz : PySem.W.keepIn K (.ref ffz) = true)
    (aft : PySem.W.nsIn K mainGlobals "finite" = some (some (.ref fft)))
    (lft : K.lookup fft = some ⟨ocft, odft, .func (PySem.W.fnOf "finite" "finite" (defArgs sFt) (defBody sFt) (defScope sFt) .none kVft dcft pmft anft cdft ctft), slft⟩)
    (cft : PySem.W.codeIn K cdft "finite" = true)
    (kft : PySem.W.keepIn K (.ref fft) = true)
    (abg : PySem.W.nsIn K mainGlobals "beginning" = some (some (.ref fbg)))
    (lbg : K.lookup fbg = some ⟨ocbg, odbg, .func (PySem.W.fnOf "beginning" "beginning" (defArgs sBg) (defBody sBg) (defScope sBg) .none kVbg dcbg pmbg anbg cdbg ctbg), slbg⟩)
    (cbg : PySem.W.codeIn K cdbg "beginning" = true)
    (kbg : PySem.W.keepIn K (.ref fbg) = true)
    (aeg : PySem.W.nsIn K mainGlobals "ending" = some (some (.ref feg)))
    (leg : K.lookup feg = some ⟨oceg, odeg, .func (PySem.W.fnOf "ending" "ending" (defArgs sEg) (defBody sEg) (defScope sEg) .none kVeg dceg pmeg aneg cdeg cteg), sleg⟩)
    (ceg : PySem.W.codeIn K cdeg "ending" = true)
    (keg : PySem.W.keepIn K (.ref feg) = true)
    (als : PySem.W.nsIn K mainGlobals "lengths" = some (some (.ref fls)))
    (lls : K.lookup fls = some ⟨ocls, odls, .func (PySem.W.fnOf "lengths" "lengths" (defArgs sLs) (defBody sLs) (defScope sLs) .none kVls dcls pmls anls cdls ctls), slls⟩)
    (cls : PySem.W.codeIn K cdls "lengths" = true)
    (kls : PySem.W.keepIn K (.ref fls) = true)
    (aK : PySem.W.nsIn K mainGlobals "_law_deck" = some (some (.ref fK)))
    (lK : K.lookup fK = some ⟨ocK, odK, .func (PySem.W.fnOf "_law_deck" "_law_deck" (defArgs sDeck) (defBody sDeck) (defScope sDeck) .none kVK dcK pmK anK cdK ctK), slK⟩)
    (cK : PySem.W.codeIn K cdK "_law_deck" = true)
    (kK : PySem.W.keepIn K (.ref fK) = true)
    (aW : PySem.W.nsIn K mainGlobals "_law_draw" = some (some (.ref fW)))
    (lW : K.lookup fW = some ⟨ocW, odW, .func (PySem.W.fnOf "_law_draw" "_law_draw" (defArgs sDraw) (defBody sDraw) (defScope sDraw) .none kVW dcW pmW anW cdW ctW), slW⟩)
    (cW : PySem.W.codeIn K cdW "_law_draw" = true)
    (kW : PySem.W.keepIn K (.ref fW) = true)
    (aQ : PySem.W.nsIn K mainGlobals "_law_pick" = some (some (.ref fQ)))
    (lQ : K.lookup fQ = some ⟨ocQ, odQ, .func (PySem.W.fnOf "_law_pick" "_law_pick" (defArgs sPick) (defBody sPick) (defScope sPick) .none kVQ dcQ pmQ anQ cdQ ctQ), slQ⟩)
    (cQ : PySem.W.codeIn K cdQ "_law_pick" = true)
    (kQ : PySem.W.keepIn K (.ref fQ) = true)
    (aS : PySem.W.nsIn K mainGlobals "_law_signs" = some (some (.ref fS)))
    (lS : K.lookup fS = some ⟨ocS, odS, .func (PySem.W.fnOf "_law_signs" "_law_signs" (defArgs sSigns) (defBody sSigns) (defScope sSigns) .none kVS dcS pmS anS cdS ctS), slS⟩)
    (cS : PySem.W.codeIn K cdS "_law_signs" = true)
    (kS : PySem.W.keepIn K (.ref fS) = true)
    (aV : PySem.W.nsIn K mainGlobals "_law_every" = some (some (.ref fV)))
    (lV : K.lookup fV = some ⟨ocV, odV, .func (PySem.W.fnOf "_law_every" "_law_every" (defArgs sEvery) (defBody sEvery) (defScope sEvery) .none kVV dcV pmV anV cdV ctV), slV⟩)
    (cV : PySem.W.codeIn K cdV "_law_every" = true)
    (kV : PySem.W.keepIn K (.ref fV) = true)
    (aF : PySem.W.nsIn K mainGlobals "_law_far" = some (some (.ref fF)))
    (lF : K.lookup fF = some ⟨ocF, odF, .func (PySem.W.fnOf "_law_far" "_law_far" (defArgs sFar) (defBody sFar) (defScope sFar) .none kVF dcF pmF anF cdF ctF), slF⟩)
    (cF : PySem.W.codeIn K cdF "_law_far" = true)
    (kF : PySem.W.keepIn K (.ref fF) = true)
    (aD : PySem.W.nsIn K mainGlobals "_law_word" = some (some (.ref fD)))
    (lD : K.lookup fD = some ⟨ocD, odD, .func (PySem.W.fnOf "_law_word" "_law_word" (defArgs sWd) (defBody sWd) (defScope sWd) .none kVD dcD pmD anD cdD ctD), slD⟩)
    (cD : PySem.W.codeIn K cdD "_law_word" = true)
    (kD : PySem.W.keepIn K (.ref fD) = true)
    (aST : PySem.W.nsIn K mainGlobals "_law_stands" = some (some (.ref fST)))
    (lST : K.lookup fST = some ⟨ocST, odST, .func (PySem.W.fnOf "_law_stands" "_law_stands" (defArgs sSt) (defBody sSt) (defScope sSt) .none kVST dcST pmST anST cdST ctST), slST⟩)
    (cST : PySem.W.codeIn K cdST "_law_stands" = true)
    (kST : PySem.W.keepIn K (.ref fST) = true)
    (aU : PySem.W.nsIn K mainGlobals "_law_is_due" = some (some (.ref fU)))
    (lU : K.lookup fU = some ⟨ocU, odU, .func (PySem.W.fnOf "_law_is_due" "_law_is_due" (defArgs sDu) (defBody sDu) (defScope sDu) .none kVU dcU pmU anU cdU ctU), slU⟩)
    (cU : PySem.W.codeIn K cdU "_law_is_due" = true)
    (kU : PySem.W.keepIn K (.ref fU) = true)
    (aPL : PySem.W.nsIn K mainGlobals "_law_plan" = some (some (.ref fPL)))
    (lPL : K.lookup fPL = some ⟨ocPL, odPL, .func (PySem.W.fnOf "_law_plan" "_law_plan" (defArgs sPl) (defBody sPl) (defScope sPl) .none kVPL dcPL pmPL anPL cdPL ctPL), slPL⟩)
    (cPL : PySem.W.codeIn K cdPL "_law_plan" = true)
    (kPL : PySem.W.keepIn K (.ref fPL) = true)
    (aFN : PySem.W.nsIn K mainGlobals "_law_finite" = some (some (.ref fFN)))
    (lFN : K.lookup fFN = some ⟨ocFN, odFN, .func (PySem.W.fnOf "_law_finite" "_law_finite" (defArgs sFn) (defBody sFn) (defScope sFn) .none kVFN dcFN pmFN anFN cdFN ctFN), slFN⟩)
    (cFN : PySem.W.codeIn K cdFN "_law_finite" = true)
    (kFN : PySem.W.keepIn K (.ref fFN) = true)
    (aMA : PySem.W.nsIn K mainGlobals "_law_made" = some (some (.ref fMA)))
    (lMA : K.lookup fMA = some ⟨ocMA, odMA, .func (PySem.W.fnOf "_law_made" "_law_made" (defArgs sMa) (defBody sMa) (defScope sMa) .none kVMA dcMA pmMA anMA cdMA ctMA), slMA⟩)
    (cMA : PySem.W.codeIn K cdMA "_law_made" = true)
    (kMA : PySem.W.keepIn K (.ref fMA) = true)
    (aHE : PySem.W.nsIn K mainGlobals "_law_heard" = some (some (.ref fHE)))
    (lHE : K.lookup fHE = some ⟨ocHE, odHE, .func (PySem.W.fnOf "_law_heard" "_law_heard" (defArgs sHe) (defBody sHe) (defScope sHe) .none kVHE dcHE pmHE anHE cdHE ctHE), slHE⟩)
    (cHE : PySem.W.codeIn K cdHE "_law_heard" = true)
    (kHE : PySem.W.keepIn K (.ref fHE) = true)
    (aRR : PySem.W.nsIn K mainGlobals "_law_refused_right" = some (some (.ref fRR)))
    (lRR : K.lookup fRR = some ⟨ocRR, odRR, .func (PySem.W.fnOf "_law_refused_right" "_law_refused_right" (defArgs sRr) (defBody sRr) (defScope sRr) .none kVRR dcRR pmRR anRR cdRR ctRR), slRR⟩)
    (cRR : PySem.W.codeIn K cdRR "_law_refused_right" = true)
    (kRR : PySem.W.keepIn K (.ref fRR) = true)
    (aX : PySem.W.nsIn K mainGlobals "law" = some (some (.ref fX)))
    (lX : K.lookup fX = some ⟨ocX, odX, .func (PySem.W.fnOf "law" "law" (defArgs sLaw) (defBody sLaw) (defScope sLaw) .none kVX dcX pmX anX cdX ctX), slX⟩)
    (cX : PySem.W.codeIn K cdX "law" = true)
    (kX : PySem.W.keepIn K (.ref fX) = true)
    (aLC : PySem.W.nsIn K mainGlobals "Language" = some (some (.ref LC)))
    (pgLC : PySem.W.plainGet K LC Str.empty = true)
    (hdLC : PySem.W.hasDictIn K LC = true)
    (poLC : PySem.W.plainOver K LC = true)
    (saLC : PySem.W.findIn K (.ref LC) "__setattr__" = some (some (.builtin "object.__setattr__")))
    (nLCletters : PySem.W.findIn K (.ref LC) "letters" = some none)
    (nLCrows : PySem.W.findIn K (.ref LC) "rows" = some none)
    (nLCends : PySem.W.findIn K (.ref LC) "ends" = some none)
    (amc : PySem.W.findIn K (.ref LC) "__contains__" = some (some (.ref fmc)))
    (imc : PySem.W.isFn K (.ref fmc) = true)
    (lmc : K.lookup fmc = some ⟨ocmc, odmc, .func (PySem.W.fnOf "__contains__" "Language.__contains__" (defArgs sLIn) (defBody sLIn) (defScope sLIn) .none kVmc dcmc pmmc anmc cdmc ctmc), slmc⟩)
    (cmc : PySem.W.codeIn K cdmc "Language.__contains__" = true)
    (kmc : PySem.W.keepIn K (.ref fmc) = true)
    (aml : PySem.W.findIn K (.ref LC) "__len__" = some (some (.ref fml)))
    (iml : PySem.W.isFn K (.ref fml) = true)
    (lml : K.lookup fml = some ⟨ocml, odml, .func (PySem.W.fnOf "__len__" "Language.__len__" (defArgs sLLen) (defBody sLLen) (defScope sLLen) .none kVml dcml pmml anml cdml ctml), slml⟩)
    (cml : PySem.W.codeIn K cdml "Language.__len__" = true)
    (kml : PySem.W.keepIn K (.ref fml) = true)
    (aki : PySem.W.findIn K (.ref LC) "__init__" = some (some (.ref fki)))
    (iki : PySem.W.isFn K (.ref fki) = true)
    (mkLC : PySem.W.makesIn K LC = true)
    (kpLC : PySem.W.keepIn K (.ref LC) = true)
    (lki : K.lookup fki = some ⟨ocki, odki, .func (PySem.W.fnOf "__init__" "Language.__init__" (defArgs sLInit) (defBody sLInit) (defScope sLInit) .none kVki dcki pmki anki cdki ctki), slki⟩)
    (cki : PySem.W.codeIn K cdki "Language.__init__" = true)
    (kki : PySem.W.keepIn K (.ref fki) = true)
    (ahv : PySem.W.nsIn K mainGlobals "having" = some (some (.ref fhv)))
    (lhv : K.lookup fhv = some ⟨ochv, odhv, .func (PySem.W.fnOf "having" "having" (defArgs sHv) (defBody sHv) (defScope sHv) (.ref Dhv) kVhv dchv pmhv anhv cdhv cthv), slhv⟩)
    (chv : PySem.W.codeIn K cdhv "having" = true)
    (khv : PySem.W.keepIn K (.ref fhv) = true)
    (dhv : K.lookup Dhv = some ⟨ocDhv, odDhv, .seq #[.int 1 tkhv0] nDhv, slDhv⟩)
    (caL : PySem.W.findIn K (.ref LC) "__class__" = some (some (.builtin "object.__class__")))
    (cnL : PySem.W.specialIn K (.builtin "object.__class__") "__get__" = some (some (.builtin "getset_descriptor.__get__")))
    (ctL : PySem.W.takesIn K (.builtin "object.__class__") = some true)
    (cmL : PySem.W.mroIn K LC (.type "object") = some true)
    (aCErr : PySem.W.nsIn K mainGlobals "PieceError" = some (some (.ref CErr)))
    (aCB : PySem.W.nsIn K mainGlobals "BadLanguage" = some (some (.ref CB)))
    (xCB : K.lookup CB = some (excClassObj nmCB qnCB CB NCB bsCB [.ref CErr, .type "Exception", .type "BaseException", .type "object"] true snCB subCB abCB colCB ddCB k0CB k1CB k2CB k3CB k5CB "Exception.__new__"))
    (oKCB : L2.Vx.clsOk K CB = true)
    (nICB : PySem.W.findIn K (.ref CB) "part" = some none)
    (iICB : PySem.W.findIn K (.ref CB) "__init__" = some (some (.ref fICB)))
    (tICB : PySem.W.typeIn K (.ref fICB) = some (.type "function"))
    (lICB : K.lookup fICB = some ⟨ocICB, odICB, .func (PySem.W.fnOf "__init__" "BadLanguage.__init__" (defArgs sBadLang) (defBody sBadLang) (defScope sBadLang) .none kVICB dcICB pmICB anICB cdICB ctICB), slICB⟩)
    (cICB : PySem.W.codeIn K cdICB "BadLanguage.__init__" = true)
    (kICB : PySem.W.keepIn K (.ref fICB) = true)
    (aCT : PySem.W.nsIn K mainGlobals "BadText" = some (some (.ref CT)))
    (xCT : K.lookup CT = some (excClassObj nmCT qnCT CT NCT bsCT [.ref CErr, .type "Exception", .type "BaseException", .type "object"] true snCT subCT abCT colCT ddCT k0CT k1CT k2CT k3CT k5CT "Exception.__new__"))
    (oKCT : L2.Vx.clsOk K CT = true)
    (nICT : PySem.W.findIn K (.ref CT) "value" = some none)
    (iICT : PySem.W.findIn K (.ref CT) "__init__" = some (some (.ref fICT)))
    (tICT : PySem.W.typeIn K (.ref fICT) = some (.type "function"))
    (lICT : K.lookup fICT = some ⟨ocICT, odICT, .func (PySem.W.fnOf "__init__" "BadText.__init__" (defArgs sBadText) (defBody sBadText) (defScope sBadText) .none kVICT dcICT pmICT anICT cdICT ctICT), slICT⟩)
    (cICT : PySem.W.codeIn K cdICT "BadText.__init__" = true)
    (kICT : PySem.W.keepIn K (.ref fICT) = true)
    (ebb : (PySem.W.exmOne K (.ref CB) (.ref CB) == some true) = true)
    (etb : (PySem.W.exmOne K (.ref CT) (.ref CB) == some false) = true)
    (ett : (PySem.W.exmOne K (.ref CT) (.ref CT) == some true) = true)
    (ktu : (PySem.W.kitOne K (.ref LC) (.type "tuple") == some false) = true)
    (z_list : PySem.W.nsIn K mainGlobals "list" = some none)
    (z_int : PySem.W.nsIn K mainGlobals "int" = some none)
    (z_len : PySem.W.nsIn K mainGlobals "len" = some none)
    (z_tuple : PySem.W.nsIn K mainGlobals "tuple" = some none)
    (z_enumerate : PySem.W.nsIn K mainGlobals "enumerate" = some none)
    (z_range : PySem.W.nsIn K mainGlobals "range" = some none)
    (z_isinstance : PySem.W.nsIn K mainGlobals "isinstance" = some none)
    (z_bool : PySem.W.nsIn K mainGlobals "bool" = some none)
    (z_all : PySem.W.nsIn K mainGlobals "all" = some none)
    (z_zip : PySem.W.nsIn K mainGlobals "zip" = some none)
    (z_str : PySem.W.nsIn K mainGlobals "str" = some none)
    (z_sorted : PySem.W.nsIn K mainGlobals "sorted" = some none)
    (z_set : PySem.W.nsIn K mainGlobals "set" = some none)
    (z_repr : PySem.W.nsIn K mainGlobals "repr" = some none) :
    ∃ fd : FuncData, (∀ (s : Shared) (v : Value), BindsTo s fd ⟨[v], []⟩ [("_law_script", v)]) ∧ ∀ base : Heap, K.In base → base.Ns mainGlobals mg → FnG l.prog w K mg base 12 fa fd ["_law_script"] (spLaw K) := by
  have e := hfa.symm.trans (PySem.W.mg_of X G aX)
  cases e
  have Fwh := fun_mk (st := sWhole) lwh cwh kwh
  have bwh := Fwh.binds (ps := ["thing"]) fun _ _ _ _ _ _ us hl => match us, hl with | [_], _ => rfl
  have gwh := PySem.W.mg_of X G awh
  have Fac := fun_mk (st := sAsc) lac cac kac
  have bac := Fac.binds (ps := ["things"]) fun _ _ _ _ _ _ us hl => match us, hl with | [_], _ => rfl
  have gac := PySem.W.mg_of X G aac
  have Fst := fun_mk (st := sState) lst cst kst
  have bst := Fst.binds (ps := ["thing", "many"]) fun _ _ _ _ _ _ us hl => match us, hl with | [_, _], _ => rfl
  have gst := PySem.W.mg_of X G ast
  have Frw := fun_mk (st := sRow) lrw crw krw
  have brw := Frw.binds (ps := ["thing", "width", "many"]) fun _ _ _ _ _ _ us hl => match us, hl with | [_, _, _], _ => rfl
  have grw := PySem.W.mg_of X G arw
  have Frs := fun_mk (st := sRows) lrs crs krs
  have brs := Frs.binds (ps := ["thing", "width"]) fun _ _ _ _ _ _ us hl => match us, hl with | [_, _], _ => rfl
  have grs := PySem.W.mg_of X G ars
  have Fen := fun_mk (st := sEnds) len cen ken
  have ben := Fen.binds (ps := ["thing", "many"]) fun _ _ _ _ _ _ us hl => match us, hl with | [_, _], _ => rfl
  have gen := PySem.W.mg_of X G aen
  have Ffl := fun_mk (st := sFlags) lfl cfl kfl
  have bfl := Ffl.binds (ps := ["many", "ends"]) fun _ _ _ _ _ _ us hl => match us, hl with | [_, _], _ => rfl
  have gfl := PySem.W.mg_of X G afl
  have Fbh := fun_mk (st := sBehind) lbh cbh kbh
  have bbh := Fbh.binds (ps := ["letters", "rows", "state", "text"]) fun _ _ _ _ _ _ us hl => match us, hl with | [_, _, _, _], _ => rfl
  have gbh := PySem.W.mg_of X G abh
  have Fsr := fun_mk (st := sReach) lsr csr ksr
  have bsr := Fsr.binds (ps := ["rows", "start"]) fun _ _ _ _ _ _ us hl => match us, hl with | [_, _], _ => rfl
  have gsr := PySem.W.mg_of X G asr
  have Fsa := fun_mk (st := sStarted) lsa csa ksa
  have bsa := Fsa.binds (ps := ["rows", "ends", "start"]) fun _ _ _ _ _ _ us hl => match us, hl with | [_, _, _], _ => rfl
  have gsa := PySem.W.mg_of X G asa
  have Fso := fun_mk (st := sSrc) lso cso kso
  have bso := Fso.binds (ps := ["rows", "at"]) fun _ _ _ _ _ _ us hl => match us, hl with | [_, _], _ => rfl
  have gso := PySem.W.mg_of X G aso
  have Fhi := fun_mk (st := sHits) lhi chi khi
  have bhi := Fhi.binds (ps := ["sources", "inside", "classes"]) fun _ _ _ _ _ _ us hl => match us, hl with | [_, _, _], _ => rfl
  have ghi := PySem.W.mg_of X G ahi
  have Fsp := fun_mk (st := sPart) lsp csp ksp
  have bsp := Fsp.binds (ps := ["states", "some"]) fun _ _ _ _ _ _ us hl => match us, hl with | [_, _], _ => rfl
  have gsp := PySem.W.mg_of X G asp
  have Fcl := fun_mk (st := sCls) lcl ccl kcl
  have bcl := Fcl.binds (ps := ["rows", "ends"]) fun _ _ _ _ _ _ us hl => match us, hl with | [_, _], _ => rfl
  have gcl := PySem.W.mg_of X G acl
  have Flm := fun_mk (st := sLeast) llm clm klm
  have blm := Flm.binds (ps := ["rows", "ends"]) fun _ _ _ _ _ _ us hl => match us, hl with | [_, _], _ => rfl
  have glm := PySem.W.mg_of X G alm
  have Fle := fun_mk (st := sLet) lle cle kle
  have ble := Fle.binds (ps := ["thing"]) fun _ _ _ _ _ _ us hl => match us, hl with | [_], _ => rfl
  have gle := PySem.W.mg_of X G ale
  have Ftx := fun_mk (st := sText) ltx ctx ktx
  have btx := Ftx.binds (ps := ["letters", "thing"]) fun _ _ _ _ _ _ us hl => match us, hl with | [_, _], _ => rfl
  have gtx := PySem.W.mg_of X G atx
  have Fck := fun_mk (st := sCk) lck cck kck
  have bck := Fck.binds (ps := ["letters", "texts"]) fun _ _ _ _ _ _ us hl => match us, hl with | [_, _], _ => rfl
  have gck := PySem.W.mg_of X G ack
  have Fmd := fun_mk (st := sMd) lmd cmd kmd
  have bmd := Fmd.binds (ps := ["piece", "text"]) fun _ _ _ _ _ _ us hl => match us, hl with | [_, _], _ => rfl
  have gmd := PySem.W.mg_of X G amd
  have Fmr := fun_mk (st := sMr) lmr cmr kmr
  have bmr := Fmr.binds (ps := ["letters", "piece"]) fun _ _ _ _ _ _ us hl => match us, hl with | [_, _], _ => rfl
  have gmr := PySem.W.mg_of X G amr
  have Ffz := fun_mk (st := sFz) lfz cfz kfz
  have bfz := Ffz.binds (ps := ["rows"]) fun _ _ _ _ _ _ us hl => match us, hl with | [_], _ => rfl
  have gfz := PySem.W.mg_of X G afz
  have Fft := fun_mk (st := sFt) lft cft kft
  have gft := PySem.W.mg_of X G aft
  have Fbg := fun_mk (st := sBg) lbg cbg kbg
  have bbg := Fbg.binds (ps := ["letters", "text"]) fun _ _ _ _ _ _ us hl => match us, hl with | [_, _], _ => rfl
  have gbg := PySem.W.mg_of X G abg
  have Feg := fun_mk (st := sEg) leg ceg keg
  have beg := Feg.binds (ps := ["letters", "text"]) fun _ _ _ _ _ _ us hl => match us, hl with | [_, _], _ => rfl
  have geg := PySem.W.mg_of X G aeg
  have Fls := fun_mk (st := sLs) lls cls kls
  have bls := Fls.binds (ps := ["letters", "period", "rests"]) fun _ _ _ _ _ _ us hl => match us, hl with | [_, _, _], _ => rfl
  have gls := PySem.W.mg_of X G als
  have FK := fun_mk (st := sDeck) lK cK kK
  have bK := FK.binds (ps := ["_law_script"]) fun _ _ _ _ _ _ us hl => match us, hl with | [_], _ => rfl
  have gK := PySem.W.mg_of X G aK
  have FW := fun_mk (st := sDraw) lW cW kW
  have bW := FW.binds (ps := ["_law_deck_here", "_law_below"]) fun _ _ _ _ _ _ us hl => match us, hl with | [_, _], _ => rfl
  have gW := PySem.W.mg_of X G aW
  have FQ := fun_mk (st := sPick) lQ cQ kQ
  have bQ := FQ.binds (ps := ["_law_deck_here", "_law_some"]) fun _ _ _ _ _ _ us hl => match us, hl with | [_, _], _ => rfl
  have gQ := PySem.W.mg_of X G aQ
  have FS := fun_mk (st := sSigns) lS cS kS
  have bS := FS.binds (ps := ["_law_deck_here", "_law_limit"]) fun _ _ _ _ _ _ us hl => match us, hl with | [_, _], _ => rfl
  have gS := PySem.W.mg_of X G aS
  have FV := fun_mk (st := sEvery) lV cV kV
  have bV := FV.binds (ps := ["_law_signs_here", "_law_far_here"]) fun _ _ _ _ _ _ us hl => match us, hl with | [_, _], _ => rfl
  have gV := PySem.W.mg_of X G aV
  have FF := fun_mk (st := sFar) lF cF kF
  have bF := FF.binds (ps := ["_law_signs_here"]) fun _ _ _ _ _ _ us hl => match us, hl with | [_], _ => rfl
  have gF := PySem.W.mg_of X G aF
  have FD := fun_mk (st := sWd) lD cD kD
  have bD := FD.binds (ps := ["_law_deck_here", "_law_signs_here", "_law_far_here"]) fun _ _ _ _ _ _ us hl => match us, hl with | [_, _, _], _ => rfl
  have gD := PySem.W.mg_of X G aD
  have FST := fun_mk (st := sSt) lST cST kST
  have bST := FST.binds (ps := ["_law_bit", "_law_word_here"]) fun _ _ _ _ _ _ us hl => match us, hl with | [_, _], _ => rfl
  have gST := PySem.W.mg_of X G aST
  have FU := fun_mk (st := sDu) lU cU kU
  have bU := FU.binds (ps := ["_law_plan_here", "_law_word_here"]) fun _ _ _ _ _ _ us hl => match us, hl with | [_, _], _ => rfl
  have gU := PySem.W.mg_of X G aU
  have FPL := fun_mk (st := sPl) lPL cPL kPL
  have bPL := FPL.binds (ps := ["_law_deck_here", "_law_signs_here"]) fun _ _ _ _ _ _ us hl => match us, hl with | [_, _], _ => rfl
  have gPL := PySem.W.mg_of X G aPL
  have FFN := fun_mk (st := sFn) lFN cFN kFN
  have bFN := FFN.binds (ps := ["_law_signs_here", "_law_lot"]) fun _ _ _ _ _ _ us hl => match us, hl with | [_, _], _ => rfl
  have gFN := PySem.W.mg_of X G aFN
  have FMA := fun_mk (st := sMa) lMA cMA kMA
  have bMA := FMA.binds (ps := ["_law_signs_here", "_law_plan_here", "_law_by_name"]) fun _ _ _ _ _ _ us hl => match us, hl with | [_, _, _], _ => rfl
  have gMA := PySem.W.mg_of X G aMA
  have FHE := fun_mk (st := sHe) lHE cHE kHE
  have bHE := FHE.binds (ps := ["_law_signs_here", "_law_plan_here", "_law_by_name"]) fun _ _ _ _ _ _ us hl => match us, hl with | [_, _, _], _ => rfl
  have gHE := PySem.W.mg_of X G aHE
  have FRR := fun_mk (st := sRr) lRR cRR kRR
  have bRR := FRR.binds (ps := ["_law_deck_here", "_law_signs_here"]) fun _ _ _ _ _ _ us hl => match us, hl with | [_, _], _ => rfl
  have gRR := PySem.W.mg_of X G aRR
  have FX := fun_mk (st := sLaw) lX cX kX
  have gX := PySem.W.mg_of X G aX
  have n_list := PySem.W.mg_none_of X G z_list
  have n_int := PySem.W.mg_none_of X G z_int
  have n_len := PySem.W.mg_none_of X G z_len
  have n_tuple := PySem.W.mg_none_of X G z_tuple
  have n_enumerate := PySem.W.mg_none_of X G z_enumerate
  have n_range := PySem.W.mg_none_of X G z_range
  have n_isinstance := PySem.W.mg_none_of X G z_isinstance
  have n_bool := PySem.W.mg_none_of X G z_bool
  have n_all := PySem.W.mg_none_of X G z_all
  have n_zip := PySem.W.mg_none_of X G z_zip
  have n_str := PySem.W.mg_none_of X G z_str
  have n_sorted := PySem.W.mg_none_of X G z_sorted
  have n_set := PySem.W.mg_none_of X G z_set
  have n_repr := PySem.W.mg_none_of X G z_repr
  have TLC : Cls K LC := ⟨pgLC, hdLC, poLC, saLC⟩
  have gLC := PySem.W.mg_of X G aLC
  have Fmc := fun_mk (st := sLIn) lmc cmc kmc
  have bmc := Fmc.binds (ps := ["self", "text"]) fun _ _ _ _ _ _ us hl => match us, hl with | [_, _], _ => rfl
  have mmc : Meth K LC "__contains__" fmc := ⟨amc, imc, kmc⟩
  have Fml := fun_mk (st := sLLen) lml cml kml
  have bml := Fml.binds (ps := ["self"]) fun _ _ _ _ _ _ us hl => match us, hl with | [_], _ => rfl
  have mml : Meth K LC "__len__" fml := ⟨aml, iml, kml⟩
  have MLC : Mk K LC fki := ⟨mkLC, aki, iki, kpLC⟩
  have Fki := fun_mk (st := sLInit) lki cki kki
  have bki := Fki.binds (ps := ["self", "letters", "rows", "ends"]) fun _ _ _ _ _ _ us hl => match us, hl with | [_, _, _, _], _ => rfl
  have Fhv : FunD K "having" "having" (defArgs sHv) (defBody sHv) (defScope sHv) [.int 1] [] fhv _ := ⟨⟨ochv, odhv, .ref Dhv, kVhv, dchv, pmhv, anhv, cdhv, cthv, slhv, rfl, lhv, chv, .inr ⟨by (intro z; cases z), Dhv, _, [.int 1 tkhv0], nDhv, rfl, dhv, rfl, (.cons ⟨_, rfl⟩ .nil)⟩, .inl rfl⟩, khv⟩
  have ghv := PySem.W.mg_of X G ahv
  have gCErr := PySem.W.mg_of X G aCErr
  have gCB := PySem.W.mg_of X G aCB
  have x_CB := L2.Vx.oexE_of xCB oKCB
  have zCB := fun base : Heap => exK_CB (P := l.prog) (w := w) (mg := mg) (base := base) x_CB nICB iICB tICB lICB cICB kICB
  have gCT := PySem.W.mg_of X G aCT
  have x_CT := L2.Vx.oexE_of xCT oKCT
  have zCT := fun base : Heap => exK_CT (P := l.prog) (w := w) (mg := mg) (base := base) x_CT nICT iICT tICT lICT cICT kICT
  refine ⟨PySem.W.fnOf "law" "law" (defArgs sLaw) (defBody sLaw) (defScope sLaw) .none kVX dcX pmX anX cdX ctX, fun s v => .of_eq rfl, fun base _ _ => ?_⟩
  have TD : TxtD mg fW := ⟨n_list, n_int, n_len, gW⟩
  have TM : TxtM mg := ⟨n_len, n_tuple, n_enumerate, n_range, n_int, n_list⟩
  have TI : TxtI mg := ⟨n_isinstance, n_int, n_bool, n_tuple, n_len, n_all⟩
  have TR : TxtR mg := ⟨n_all, n_isinstance, n_tuple, n_len⟩
  have TZ : TxtZ mg := ⟨n_all, n_zip⟩
  have TA : TxtA mg fac := ⟨n_all, n_zip, n_isinstance, n_str, n_len, gac⟩
  have TS : TxtS mg fW := { toTxtD := TD, range := n_range, sorted := n_sorted, set := n_set }
  have TW : TxtW mg := ⟨n_len, n_range⟩
  have TLg : TxtLg K mg LC := ⟨TLC, nLCletters, nLCrows, nLCends, n_len⟩
  have TMd : TxtMd mg := ⟨n_len, n_range, n_tuple⟩
  have TMk : TxtMk K mg LC := { toTxtMd := TMd, gL := gLC }
  have TCk : TxtCk l.prog w K mg base CB CT := ⟨zCB base, gCB, zCT base, gCT⟩
  have TWd : TxtWd mg fW fQ := { toTxtD := TD, pick := gQ, range := n_range }
  have TPl : TxtPl' mg fW fQ fD := { toTxtWd := TWd, word := gD, tuple := n_tuple }
  have TFn : TxtFn mg fft := ⟨n_len, gft⟩
  have TMa : TxtMa mg fFN fhv fbg feg fls := ⟨gFN, ghv, gbg, geg, gls⟩
  have TRr : TxtRr mg fW fQ fHE := { toTxtWd := TWd, heard := gHE, rep := n_repr }
  have TLw : TxtLaw K mg LC fK fS fPL fHE fW fV fF fD fU fRR := { toTxtLg := TLg, deck := gK, signs := gS, plan := gPL, heard := gHE, draw := gW, every := gV, far := gF, word := gD, due := gU, refused := gRR, gL := gLC, range := n_range, str := n_str, list := n_list, rep := n_repr, isi := n_isinstance, tuple := n_tuple, ca := caL, cn := cnL, ct := ctL, cm := cmL, kT := eq_of_beq ktu }
  have Gwh := ok_whole (P := l.prog) (w := w) (base := base) Fwh TI
  have Gst := ok_state (P := l.prog) (w := w) (base := base) Fst Gwh bwh Fwh.kp gwh
  have Grw := ok_row (P := l.prog) (w := w) (base := base) Frw Gst bst Fst.kp gst TR
  have Grs := ok_rows (P := l.prog) (w := w) (base := base) Frs Grw brw Frw.kp grw TR
  have GacT := ok_ascT (P := l.prog) (w := w) (base := base) Fac TZ
  have Gac := ok_asc (P := l.prog) (w := w) (base := base) Fac TA
  have Gen := ok_ends (P := l.prog) (w := w) (base := base) Fen Gst bst Fst.kp gst GacT bac Fac.kp gac TR
  have Gfl := ok_flags (P := l.prog) (w := w) (mg := mg) (base := base) Ffl
  have Gbh := ok_behind (P := l.prog) (w := w) (mg := mg) (base := base) Fbh
  have Gsr := ok_reach (P := l.prog) (w := w) (base := base) Fsr TM
  have Gsa := ok_started (P := l.prog) (w := w) (base := base) Fsa TM Gsr bsr Fsr.kp gsr Gfl bfl Ffl.kp gfl
  have Gso := ok_src (P := l.prog) (w := w) (base := base) Fso TM
  have Ghi := ok_hits (P := l.prog) (w := w) (K := K) (mg := mg) (base := base) Fhi
  have Gsp := ok_part (P := l.prog) (w := w) (base := base) Fsp TM
  have Gcl := ok_cls (P := l.prog) (w := w) (base := base) Fcl TM Gfl bfl Ffl.kp gfl Gso bso Fso.kp gso Ghi bhi Fhi.kp ghi Gsp bsp Fsp.kp gsp
  have Glm := ok_leastL (P := l.prog) (w := w) (base := base) Flm TM Gfl bfl Ffl.kp gfl Gsa bsa Fsa.kp gsa Gcl bcl Fcl.kp gcl
  have Gle := ok_let (P := l.prog) (w := w) (base := base) Fle Gac bac Fac.kp TA
  have Gtx := ok_text (P := l.prog) (w := w) (base := base) Ftx TA
  have Gki := ok_lmake (P := l.prog) (w := w) (base := base) Fki TLg Gle ble Fle.kp gle Grs brs Frs.kp grs Gen ben Fen.kp gen Glm blm Flm.kp glm
  have Gmc := ok_lin (P := l.prog) (w := w) (base := base) Fmc TLg Gtx btx Ftx.kp gtx Gbh bbh Fbh.kp gbh
  have Gml := ok_llen (P := l.prog) (w := w) (base := base) Fml TLg
  have Gck := ok_ck (P := l.prog) (w := w) (base := base) Fck TCk Gle ble Fle.kp gle Gtx btx Ftx.kp gtx
  have Gmd := ok_md (P := l.prog) (w := w) (K := K) (base := base) Fmd TMd
  have Gmr := ok_mr (P := l.prog) (w := w) (base := base) Fmr TMd Gmd bmd Fmd.kp gmd
  have Gfz := ok_fz (P := l.prog) (w := w) (base := base) Ffz TMd
  have Gft := ok_ft (P := l.prog) (w := w) (base := base) Fft TMk Gck bck Fck.kp gck Gfz bfz Ffz.kp gfz MLC Gki bki
  have Ghv := ok_hv (P := l.prog) (w := w) (base := base) Fhv TMk TCk Gck bck Fck.kp gck Gfz bfz Ffz.kp gfz Gmr bmr Fmr.kp gmr MLC Gki bki
  have Gbg := ok_bg (P := l.prog) (w := w) (base := base) Fbg TMk Gck bck Fck.kp gck Gfz bfz Ffz.kp gfz MLC Gki bki
  have Geg := ok_eg (P := l.prog) (w := w) (base := base) Feg TMk Gck bck Fck.kp gck Gfz bfz Ffz.kp gfz Gmr bmr Fmr.kp gmr MLC Gki bki
  have Gls := ok_ls (P := l.prog) (w := w) (base := base) Fls TMk Gck bck Fck.kp gck Gfz bfz Ffz.kp gfz MLC Gki bki
  have GW := ok_draw (P := l.prog) (w := w) (base := base) FW TD
  have GQ := ok_pick (P := l.prog) (w := w) (base := base) FQ FW bW TD
  have GQs := ok_pickS (P := l.prog) (w := w) (base := base) FQ FW bW TD
  have GS := ok_signs (P := l.prog) (w := w) (base := base) FS GW bW FW.kp TS
  have GV := ok_every (P := l.prog) (w := w) (base := base) FV TW
  have GF := ok_far (P := l.prog) (w := w) (K := K) (base := base) FF TW
  have GD := ok_wd (P := l.prog) (w := w) (base := base) FD TWd GW bW FW.kp GQs bQ FQ.kp
  have GST := ok_st (P := l.prog) (w := w) (K := K) (base := base) FST TW
  have GU := ok_du (P := l.prog) (w := w) (base := base) FU TW GST bST FST.kp gST
  have GPL := ok_pl (P := l.prog) (w := w) (base := base) FPL TPl GW bW FW.kp GQ GQs bQ FQ.kp GD bD FD.kp
  have GFN := ok_fn (P := l.prog) (w := w) (base := base) FFN TFn Gft Fft.kp
  obtain ⟨dsh, rdh, bh2⟩ := hv_b2 Fhv
  have GMA := ok_ma (P := l.prog) (w := w) (base := base) FMA TMa GFN bFN FFN.kp Ghv (hv_b3 Fhv) rdh bh2 (kb_hv Fhv) Fhv.kp Gbg bbg (kb_bg Fbg) Fbg.kp Geg beg (kb_eg Feg) Feg.kp Gls bls (kb_ls Fls) Fls.kp
  have GHE := ok_he (P := l.prog) (w := w) (base := base) FHE TCk (eq_of_beq ebb) (eq_of_beq etb) (eq_of_beq ett) GMA bMA FMA.kp gMA
  have GRR := ok_rr (P := l.prog) (w := w) (base := base) FRR TRr GW bW FW.kp GQ bQ FQ.kp GHE bHE FHE.kp
  exact ok_law FX TLw (ok_deck FK TD) bK FK.kp GS bS FS.kp GPL bPL FPL.kp GHE bHE FHE.kp GW bW FW.kp GV bV FV.kp GF bF FF.kp GD bD FD.kp GU bU FU.kp GRR bRR FRR.kp MLC Gki bki mml Gml bml mmc Gmc bmc
end
theorem walk {l : PySem.W.OpenLaw} {q : Program} {loose : List Str} {XP : (Str → Option Value) → Heap → Prop} {YP : World → Heap → Prop} {d : DefRec} {K : Params → PySem.W.Frag} (hn : l.most = some 63) (hdf : d.params.defaults = [])
    (hY : ∀ (w : World) (h : Heap), YP w h → (K w.params).In h)
    (F : ∀ (w : World) (mg : Str → Option Value) (fa : Addr) (h : Heap), (K w.params).In h → h.Ns mainGlobals mg → mg d.name = some (.ref fa) →
      ∃ fd : FuncData, (∀ (s : Shared) (u : Value), BindsTo s fd ⟨[u], []⟩ [("_law_script", u)]) ∧ ∀ base : Heap, (K w.params).In base → base.Ns mainGlobals mg → FnG l.prog w (K w.params) mg base 12 fa fd ["_law_script"] (spLaw (K w.params))) :
    PySem.W.WalkO q loose XP YP l.row.toRowW d [] (fun f vs => PySem.call f vs) :=
  walk_ofG (n := 63) (k := 12) (x := "_law_script") (sp := fun w => spLaw (K w.params)) hn (by decide) hdf ⟨rfl, by decide, by decide⟩ hY F (fun _ _ a ns hl _ hS => ⟨a, ns, rfl, hS, hl, fun _ => rfl⟩)
end Vf
open PySem PySem.W PyProof.Rows
set_option maxRecDepth 100000 in
set_option maxHeartbeats 0 in
theorem PySem.Challenge.cw_piecesseen_k09_makers_holds : PySem.Challenge.rw_piecesseen_k09_makers.Holds := by
  w_on; o_law; k_head; (case hw => w_witness2)
  k_fill
  refine Vf.walk (l := PySem.Challenge.rw_piecesseen_k09_makers) rfl rfl (fun w h Y => PySem.W.kIn_of Y) ?F
  case F =>
    intro w mg fa h KX G hmg
    refine' Vf.all_mk KX G hmg ?awh ?lwh ?cwh ?kwh ?aac ?lac ?cac ?kac ?ast ?lst ?cst ?kst ?arw ?lrw ?crw ?krw ?ars ?lrs ?crs ?krs ?aen ?len ?cen ?ken ?afl ?lfl ?cfl ?kfl ?abh ?lbh ?cbh ?kbh ?asr ?lsr ?csr ?ksr ?asa ?lsa ?csa ?ksa ?aso ?lso ?cso ?kso ?ahi ?lhi ?chi ?khi ?asp ?lsp ?csp ?ksp ?acl ?lcl ?ccl ?kcl ?alm ?llm ?clm ?klm ?ale ?lle ?cle ?kle ?atx ?ltx ?ctx ?ktx ?ack ?lck ?cck ?kck ?amd ?lmd ?cmd ?kmd ?amr ?lmr ?cmr ?kmr ?afz ?lfz ?cfz ?kfz ?aft ?lft ?cft ?kft ?abg ?lbg ?cbg ?kbg ?aeg ?leg ?ceg ?keg ?als ?lls ?cls ?kls ?aK ?lK ?cK ?kK ?aW ?lW ?cW ?kW ?aQ ?lQ ?cQ ?kQ ?aS ?lS ?cS ?kS ?aV ?lV ?cV ?kV ?aF ?lF ?cF ?kF ?aD ?lD ?cD ?kD ?aST ?lST ?cST ?kST ?aU ?lU ?cU ?kU ?aPL ?lPL ?cPL ?kPL ?aFN ?lFN ?cFN ?kFN ?aMA ?lMA ?cMA ?kMA ?aHE ?lHE ?cHE ?kHE ?aRR ?lRR ?cRR ?kRR ?aX ?lX ?cX ?kX ?aLC ?pgLC ?hdLC ?poLC ?saLC ?nLCletters ?nLCrows ?nLCends ?amc ?imc ?lmc ?cmc ?kmc ?aml ?iml ?lml ?cml ?kml ?aki ?iki ?mkLC ?kpLC ?lki ?cki ?kki ?ahv ?lhv ?chv ?khv ?dhv ?caL ?cnL ?ctL ?cmL ?aCErr ?aCB ?xCB ?oKCB ?nICB ?iICB ?tICB ?lICB ?cICB ?kICB ?aCT ?xCT ?oKCT ?nICT ?iICT ?tICT ?lICT ?cICT ?kICT ?ebb ?etb ?ett ?ktu ?z_list ?z_int ?z_len ?z_tuple ?z_enumerate ?z_range ?z_isinstance ?z_bool ?z_all ?z_zip ?z_str ?z_sorted ?z_set ?z_repr
    (case awh => k_is)
    (case lwh => k_is)
    (case cwh => k_is)
    (case kwh => k_is)
    (case aac => k_is)
    (case lac => k_is)
    (case cac => k_is)
    (case kac => k_is)
    (case ast => k_is)
    (case lst => k_is)
    (case cst => k_is)
    (case kst => k_is)
    (case arw => k_is)
    (case lrw => k_is)
    (case crw => k_is)
    (case krw => k_is)
    (case ars => k_is)
    (case lrs => k_is)
    (case crs => k_is)
    (case krs => k_is)
    (case aen => k_is)
    (case len => k_is)
    (case cen => k_is)
    (case ken => k_is)
    (case afl => k_is)
    (case lfl => k_is)
    (case cfl => k_is)
    (case kfl => k_is)
    (case abh => k_is)
    (case lbh => k_is)
    (case cbh => k_is)
    (case kbh => k_is)
    (case asr => k_is)
    (case lsr => k_is)
    (case csr => k_is)
    (case ksr => k_is)
    (case asa => k_is)
    (case lsa => k_is)
    (case csa => k_is)
    (case ksa => k_is)
    (case aso => k_is)
    (case lso => k_is)
    (case cso => k_is)
    (case kso => k_is)
    (case ahi => k_is)
    (case lhi => k_is)
    (case chi => k_is)
    (case khi => k_is)
    (case asp => k_is)
    (case lsp => k_is)
    (case csp => k_is)
    (case ksp => k_is)
    (case acl => k_is)
    (case lcl => k_is)
    (case ccl => k_is)
    (case kcl => k_is)
    (case alm => k_is)
    (case llm => k_is)
    (case clm => k_is)
    (case klm => k_is)
    (case ale => k_is)
    (case lle => k_is)
    (case cle => k_is)
    (case kle => k_is)
    (case atx => k_is)
    (case ltx => k_is)
    (case ctx => k_is)
    (case ktx => k_is)
    (case ack => k_is)
    (case lck => k_is)
    (case cck => k_is)
    (case kck => k_is)
    (case amd => k_is)
    (case lmd => k_is)
    (case cmd => k_is)
    (case kmd => k_is)
    (case amr => k_is)
    (case lmr => k_is)
    (case cmr => k_is)
    (case kmr => k_is)
    (case afz => k_is)
    (case lfz => k_is)
    (case cfz => k_is)
    (case kfz => k_is)
    (case aft => k_is)
    (case lft => k_is)
    (case cft => k_is)
    (case kft => k_is)
    (case abg => k_is)
    (case lbg => k_is)
    (case cbg => k_is)
    (case kbg => k_is)
    (case aeg => k_is)
    (case leg => k_is)
    (case ceg => k_is)
    (case keg => k_is)
    (case als => k_is)
    (case lls => k_is)
    (case cls => k_is)
    (case kls => k_is)
    (case aK => k_is)
    (case lK => k_is)
    (case cK => k_is)
    (case kK => k_is)
    (case aW => k_is)
    (case lW => k_is)
    (case cW => k_is)
    (case kW => k_is)
    (case aQ => k_is)
    (case lQ => k_is)
    (case cQ => k_is)
    (case kQ => k_is)
    (case aS => k_is)
    (case lS => k_is)
    (case cS => k_is)
    (case kS => k_is)
    (case aV => k_is)
    (case lV => k_is)
    (case cV => k_is)
    (case kV => k_is)
    (case aF => k_is)
    (case lF => k_is)
    (case cF => k_is)
    (case kF => k_is)
    (case aD => k_is)
    (case lD => k_is)
    (case cD => k_is)
    (case kD => k_is)
    (case aST => k_is)
    (case lST => k_is)
    (case cST => k_is)
    (case kST => k_is)
    (case aU => k_is)
    (case lU => k_is)
    (case cU => k_is)
    (case kU => k_is)
    (case aPL => k_is)
    (case lPL => k_is)
    (case cPL => k_is)
    (case kPL => k_is)
    (case aFN => k_is)
    (case lFN => k_is)
    (case cFN => k_is)
    (case kFN => k_is)
    (case aMA => k_is)
    (case lMA => k_is)
    (case cMA => k_is)
    (case kMA => k_is)
    (case aHE => k_is)
    (case lHE => k_is)
    (case cHE => k_is)
    (case kHE => k_is)
    (case aRR => k_is)
    (case lRR => k_is)
    (case cRR => k_is)
    (case kRR => k_is)
    (case aX => k_is)
    (case lX => k_is)
    (case cX => k_is)
    (case kX => k_is)
    (case aLC => k_is)
    (case pgLC => k_is)
    (case hdLC => k_is)
    (case poLC => k_is)
    (case saLC => k_is)
    (case nLCletters => k_is)
    (case nLCrows => k_is)
    (case nLCends => k_is)
    (case amc => k_is)
    (case imc => k_is)
    (case lmc => k_is)
    (case cmc => k_is)
    (case kmc => k_is)
    (case aml => k_is)
    (case iml => k_is)
    (case lml => k_is)
    (case cml => k_is)
    (case kml => k_is)
    (case aki => k_is)
    (case iki => k_is)
    (case mkLC => k_is)
    (case kpLC => k_is)
    (case lki => k_is)
    (case cki => k_is)
    (case kki => k_is)
    (case ahv => k_is)
    (case lhv => k_is)
    (case chv => k_is)
    (case khv => k_is)
    (case dhv => k_is)
    (case caL => k_is)
    (case cnL => k_is)
    (case ctL => k_is)
    (case cmL => k_is)
    (case aCErr => k_is)
    (case aCB => k_is)
    (case xCB => k_is)
    (case oKCB => kernel_rfl)
    (case nICB => k_is)
    (case iICB => k_is)
    (case tICB => k_is)
    (case lICB => k_is)
    (case cICB => k_is)
    (case kICB => k_is)
    (case aCT => k_is)
    (case xCT => k_is)
    (case oKCT => kernel_rfl)
    (case nICT => k_is)
    (case iICT => k_is)
    (case tICT => k_is)
    (case lICT => k_is)
    (case cICT => k_is)
    (case kICT => k_is)
    (case ebb => kernel_rfl)
    (case etb => kernel_rfl)
    (case ett => kernel_rfl)
    (case ktu => kernel_rfl)
    (case z_list => k_is)
    (case z_int => k_is)
    (case z_len => k_is)
    (case z_tuple => k_is)
    (case z_enumerate => k_is)
    (case z_range => k_is)
    (case z_isinstance => k_is)
    (case z_bool => k_is)
    (case z_all => k_is)
    (case z_zip => k_is)
    (case z_str => k_is)
    (case z_sorted => k_is)
    (case z_set => k_is)
    (case z_repr => k_is)
