import PyProof.Rows.All
import Wide.All
import OpenK.AllK
import Wide.FinOn
import HandS.ForMost
import HandS.Strs
import HandS.SetFor
import HandS.SetTxt0
import HandS.Walk
import HandS.Style
import HandS.IsInst
import HandS.More
import HandS.ExcInit
import HandS.HotCalls
import HandS.WordsExc
import HandS.Codes
import HandS.ForDict
import PySem.Challenge.RW_piecesseen_k66_whole_one_letter_put_othe
import HandS.SortInts
import HandS.TupSets
import PyProof.SeqIndex
import HandS.Dict
import HandS.Text
import HandS.StrMore
import PyProof.StrLawsFrom
import PyProof.Rows.StrBetween
import PyProof.FitsInt
import PyProof.Rows.StrJoinMade
import HandS.Zip
import HandS.TupAny
import PyProof.Rows.StrCut
import HandS.Property
import HandS.MakeKw
import HandS.MakeKwOnly
import HandS.Defaults
import OpenK.KOps
import HandS.ExcIs
import HandS.ExcOwn
import HandS.TryOnly
import KE.KExcInit
import KE.KExcIs
import KE.KExcMake
import HandS.ForExc
import HandS.TryMany
import HandS.ExcField
import HandS.SortRule
import KE.KDictPairs
set_option Elab.async false
set_option linter.all false
set_option maxRecDepth 100000
set_option maxHeartbeats 4000000
namespace Vs
open PySem PySem.Spec PyProof.Rows L2
open PySem.Froz (SD sObj addTx tailTx sing TxOk)
/-! ### a set of texts, as it grows out of a text's signs -/
theorem tail_ris {ep : Nat} {es : Array (Int × Value)} {t : SetTable} {b : Bool} (r : Ris t.place.toList) : Ris (tailTx ep es t b).2.2.place.toList := by
  unfold tailTx
  split
  · exact relayAll_ris t es _
  · exact r
theorem tail_led {ep : Nat} {es : Array (Int × Value)} {t : SetTable} {b : Bool} : (tailTx ep es t b).2.2.led = t.led := by
  unfold tailTx
  split
  · exact relayAll_led t es _
  · rfl
theorem add_ris {h : Int} {v : Value} {D : SD} (r : Ris D.2.2.place.toList) : Ris (addTx h v D).2.2.place.toList := by
  unfold addTx
  refine tail_ris ?_
  have q := layNew_ris D.2.2 D.1 h v r
  split <;> exact q
theorem add_led {h : Int} {v : Value} {D : SD} : (addTx h v D).2.2.led = D.2.2.led := by
  unfold addTx
  refine tail_led.trans ?_
  have q := layNew_led D.2.2 D.1 h v
  split <;> exact q
/-- the payload D holds just the texts l, each once, and can be walked -/
structure Tx (P : Program) (w : World) (D : SD) (l : List Str) : Prop where
  ok : TxOk P w D l
  ris : Ris D.2.2.place.toList
  led : w.params.followText "set-order" = true ∨ D.2.2.led = true
  nd : l.Nodup
section
variable {P : Program} {w : World} {A : Around} {E : Value → Shared → Prop} {s : Shared}
theorem Tx.add {D : SD} {l : List Str} {k : Str} (u : Tok) (F : Tx P w D l) (hk : k ∉ l) : Tx P w (addTx (hashStr w k) (.str k u) D) (k :: l) :=
  ⟨Froz.add_ok u F.ok, add_ris F.ris, F.led.imp id fun z => add_led.trans z, List.nodup_cons.mpr ⟨hk, F.nd⟩⟩
/-- a text that is there already -/
theorem add_old {a : Addr} {T : String} {D : SD} {l : List Str} {k : Str} {u : Tok} {Q : Bool → Shared → Prop} (ho : s.heap.get? a = some (sObj T D)) (F : TxOk P w D l) (hk : k ∈ l) (hb : l.length < scanBound)
    (h : Q false s) : wpAny (model P w) A (setAddHashed a (.str k u) (hashStr w k)) Q E s := by
  obtain ⟨es, ep, t⟩ := D
  have hd : (sObj T (es, ep, t)).data = .set es ep t := rfl
  have hf : t.fits es.size = true := F.fit
  have hel : ElemsOf (strKind P w) es.toList := F.el
  have hb0 : es.size < scanBound := by
    have z : es.size = l.length := F.sz
    omega
  obtain ⟨e, he, hi⟩ := (F.mem k).mp hk
  unfold setAddHashed setAddHashedIn
  refine wpAny_holding (wpAny_bind (wpAny_setState_of ho hd hf ?_))
  dsimp only
  rw [byScan_of rfl hb0 hel]
  simp only [↓reduceIte]
  unfold setAddByScan
  refine wpAny_bind (wpAny_bind (wpAny_rule (wpAny_bind (wpAny_setScan_of (knd := strKind P w) (k := k) (Froz.is_str k u) ho hd hf hel ?_))))
  cases hr : List.findIdx? (fun e => (strKind P w).is k e.2) es.toList with
  | none =>
    have c := List.findIdx?_eq_none_iff.mp hr e he
    rw [hi] at c
    cases c
  | some j => exact wpAny_pure (wpAny_pure h)
/-- the texts of one sign each -/
abbrev parts (x : Str) : List Str := x.cps.toList.map sing
/-- the loop that puts them in -/
theorem loop_tx {I : Addr} {fp wr : List Addr} {G : Array GenState → Array GenState → Prop} {n : Nat} {x : Str} {St : Nat → Shared → Prop} {R : Result → Shared → Prop}
    (W : WalksS P w A.in1 I fp wr G n (SignAt x) St) (S : Addr) (hSf : S ∉ fp) (hn : n = x.cps.size) (hb : n + 1 < scanBound) :
    ∀ (m i : Nat) (s : Shared), n - i = m → i ≤ n → St i s → (∃ D l, s.heap.get? S = some (sObj "set" D) ∧ Tx P w D l ∧ l.length ≤ i ∧ ∀ k, k ∈ l ↔ k ∈ (parts x).take i) →
      (∀ s' D l, Moved (S :: wr) G s s' → s'.heap.get? S = some (sObj "set" D) → Tx P w D l → (∀ k, k ∈ l ↔ k ∈ parts x) → R (.ok (.ret .none)) s') →
      codeAny (model P w) A (.builtin "set.update.loop" ⟨[.ref S, .ref I], []⟩) R s := by
  have hSw : S ∉ wr := fun h => hSf (W.sub _ h)
  have more : ∀ b ∈ wr, b ∈ S :: wr := fun b => List.mem_cons_of_mem _
  have hpl : (parts x).length = n := by rw [List.length_map, Array.length_toList, hn]
  intro m
  induction m with
  | zero =>
    intro i s hm hi hst ⟨D, l, hS, F, hl, hmem⟩ hR
    obtain rfl : i = n := by omega
    refine codeAny_builtin PyProof.Rows.F.entry_set_update_loop ?_
    rw [Around.under_plainId PyProof.Rows.F.plain_set_update_loop _]
    refine wpAny_bind (W.done s _ _ hst fun s' mv => wpAny_pure (hR s' D l (mv.mono more) (mv.heap S _ hSw hS) F fun k => ?_))
    rw [hmem k, List.take_of_length_le (Nat.le_of_eq hpl)]
  | succ m ih =>
    intro i s hm hi hst ⟨D, l, hS, F, hl, hmem⟩ hR
    refine codeAny_builtin PyProof.Rows.F.entry_set_update_loop ?_
    rw [Around.under_plainId PyProof.Rows.F.plain_set_update_loop _]
    refine wpAny_bind (W.item i s _ _ (by omega) hst fun v s1 hP hst1 mv => ?_)
    obtain ⟨c, u, hc, rfl⟩ := hP
    have hS1 := mv.heap S _ hSw hS
    have hp : (parts x)[i]? = some (sing c) := by rw [List.getElem?_map, Array.getElem?_toList, hc]; rfl
    have hnx : ∀ k, k ∈ (parts x).take (i + 1) ↔ k ∈ l ∨ k = sing c := fun k => by
      rw [List.take_add_one, hp, List.mem_append, ← hmem k]
      simp
    refine wpAny_bind (wpAny_holding ?_)
    unfold setAdd
    refine wpAny_holding (wpAny_bind ((strKind P w).pyHash (k := sing c) (Froz.is_str _ _) ?_))
    by_cases hk : sing c ∈ l
    · refine add_old (s := { s1 with toks := s1.toks + 1 }) hS1 F.ok hk (by omega) ?_
      refine wpAny_pure ⟨plainId_quiet PyProof.Rows.F.plain_set_update_loop _, ih (i + 1) _ (by omega) (by omega) (W.frame _ s1 _ _ hst1 (Nat.le_succ _) fun b _ o e => e) ⟨D, l, hS1, F, by omega, fun k => ?_⟩ fun s2 D2 l2 mv2 hS2 F2 h2 => ?_⟩
      · rw [hnx k]
        exact ⟨.inl, fun z => z.elim id fun z => z ▸ hk⟩
      · exact hR s2 D2 l2 (Moved.trans W.gtrans ((mv.mono more).then_heap (Nat.le_succ _) fun b o _ e => e) mv2) hS2 F2 h2
    · refine Froz.add_x (s := { s1 with toks := s1.toks + 1 }) hS1 F.ok hk (by omega) ?_
      have hS2 : (s1.heap.update S (fun _ => sObj "set" (addTx (hashStr w (sing c)) (.str (sing c) u) D))).get? S = some (sObj "set" (addTx (hashStr w (sing c)) (.str (sing c) u) D)) := Froz.get_upd _ hS1 rfl
      have other : ∀ b o, b ≠ S → s1.heap.get? b = some o → (s1.heap.update S (fun _ => sObj "set" (addTx (hashStr w (sing c)) (.str (sing c) u) D))).get? b = some o := fun b o n e => (Heap.get?_update_other _ _ (Ne.symm n)).trans e
      refine wpAny_pure ⟨plainId_quiet PyProof.Rows.F.plain_set_update_loop _, ih (i + 1) _ (by omega) (by omega) (W.frame _ s1 _ _ hst1 (Nat.le_succ _) fun b hb' o e => other b o (fun z => hSf (z ▸ hb')) e) ⟨_, sing c :: l, hS2, F.add u hk, (by simp only [List.length_cons]; omega), fun k => ?_⟩ fun s2 D2 l2 mv2 hS3 F2 h2 => ?_⟩
      · rw [hnx k, List.mem_cons]
        exact Or.comm
      · exact hR s2 D2 l2 (Moved.trans W.gtrans ((mv.mono more).then_heap (Nat.le_succ _) fun b o nb e => other b o (fun z => nb (z ▸ List.mem_cons_self ..)) e) mv2) hS3 F2 h2
end
end Vs

set_option Elab.async false
set_option linter.all false
set_option maxRecDepth 100000
set_option maxHeartbeats 4000000
namespace Vs
open PySem PySem.Spec PyProof.Rows L2
open PySem.Froz (SD sObj addTx tailTx sing TxOk)
section
variable {P : Program} {w : World} {A : Around} {E : Value → Shared → Prop} {s : Shared}
/-- the empty payload of a new set -/
abbrev emptyD (w : World) : SD := (#[], 0, .fresh 0 0 (!w.params.followText "set-order"))
theorem tx_empty : Tx P w (emptyD w) [] := by
  refine ⟨TxOk.nil (by rfl), List.Pairwise.nil, ?_, List.nodup_nil⟩
  show _ ∨ (!w.params.followText "set-order") = true
  cases w.params.followText "set-order" <;> simp
/-- where set(v) goes once the new set stands: its __init__ -/
theorem set_by_init {v : Value} {Q : Value → Shared → Prop}
    (h : ∀ R : Result → Shared → Prop, (∀ s₂, Q (.ref s.heap.objs.size) s₂ → R (.ok (.ret .none)) s₂) → wpAny (model P w) A.in1.in1 (Builtin.«set.__init__» ⟨[.ref s.heap.objs.size, v], []⟩)
      (fun fin s' => match fin with | .done f => R (.ok f) s' | .again c' => c'.quiet = true ∧ codeAny (model P w) A.in1 c' R s') (fun e s' => R (.error e) s') { s with heap := s.heap.push (sObj "set" (emptyD w)) }) :
    wpAny (model P w) A (call (.type "set") [v]) Q E s := by
  obtain ⟨c, tl, hmro⟩ := F.called_set.mro
  have g1 := F.called_set.made
  have g2 := F.called_set.sub
  have g3 := F.called_set.notType
  have g4 := F.called_set.canCreate
  have g5 := F.typeCall_set_1 v
  refine wpAny_call (codeAny_of_tree ?_)
  refine wpAny_pure ⟨Code.quiet_builtin _ (by decide +kernel), codeAny_builtin F.entry_type_call ?_⟩
  rw [Around.under_plain (weight_type_call_type "set" [v] []) rfl]
  repeat (any_goals (first | assumption | wp_step))
  refine codeAny_mono (code_set_led1 v (E := E) (Q₁ := fun obj s₁ => obj = .ref s.heap.objs.size ∧ s₁ = { s with heap := s.heap.push (sObj "set" (emptyD w)) }) ⟨rfl, rfl⟩) fun r s₁ hr => ?_
  match r, hr with
  | .ok (.ret obj), hr =>
    obtain ⟨rfl, rfl⟩ := hr
    have hS : (s.heap.push (sObj "set" (emptyD w))).get? s.heap.objs.size = some (sObj "set" (emptyD w)) := Heap.get?_push_size _ rfl
    have hT : Shared.TypeIs { s with heap := s.heap.push (sObj "set" (emptyD w)) } (.ref s.heap.objs.size) "set" := ⟨_, hS, rfl⟩
    have g6 := F.called_set.init.lookup
    have g7 := F.called_set.init.bind (.ref s.heap.objs.size)
    repeat (any_goals (first | assumption | wp_step))
    refine codeAny_mono (codeAny_call_builtin (R := wants (fun r s₂ => r = .none ∧ Q (.ref s.heap.objs.size) s₂) E) F.called_set.init.plain F.entry_set_init (check_set_init_1 hT (h _ fun s₂ q => ⟨rfl, q⟩))) fun r₂ s₂ hr₂ => ?_
    match r₂, hr₂ with
    | .ok (.ret _), hr₂ =>
      obtain ⟨rfl, q⟩ := hr₂
      repeat (any_goals (first | assumption | wp_step))
    | .error e, hr₂ => exact hr₂
    | .ok .next, hr₂ => exact hr₂.elim
    | .ok .brk, hr₂ => exact hr₂.elim
    | .ok .cont, hr₂ => exact hr₂.elim
  | .error e, hr => exact hr
  | .ok .next, hr => exact hr.elim
  | .ok .brk, hr => exact hr.elim
  | .ok .cont, hr => exact hr.elim
end
end Vs

set_option Elab.async false
set_option linter.all false
set_option maxRecDepth 100000
set_option maxHeartbeats 4000000
namespace Vs
open PySem PySem.Spec PyProof.Rows L2
open PySem.Froz (SD sObj addTx tailTx sing TxOk)
section
variable {P : Program} {w : World} {A : Around} {E : Value → Shared → Prop} {s : Shared}
theorem sub_str_set : isSubtype (.type "str") (.type "set") = pure false := by rw [isSubtype_type]; kernel_rfl
theorem sub_str_frozenset : isSubtype (.type "str") (.type "frozenset") = pure false := by rw [isSubtype_type]; kernel_rfl
/-- set(text) -/
theorem call_set_text {x : Str} {u : Tok} {Q : Value → Shared → Prop} (hh : A.handled = none) (hb : x.cps.size + 1 < scanBound)
    (h : ∀ (s' : Shared) D l, (∀ b o, s.heap.get? b = some o → s'.heap.get? b = some o) → s'.gens = s.gens → s'.os = s.os → s'.heap.get? s.heap.objs.size = some (sObj "set" D) → Tx P w D l → (∀ k, k ∈ l ↔ k ∈ parts x) → Q (.ref s.heap.objs.size) s') :
    wpAny (model P w) A (call (.type "set") [.str x u]) Q E s := by
  refine set_by_init fun R hR => ?_
  have hS : (s.heap.push (sObj "set" (emptyD w))).get? s.heap.objs.size = some (sObj "set" (emptyD w)) := Heap.get?_push_size _ rfl
  have hz : (s.heap.push (sObj "set" (emptyD w))).objs.size = s.heap.objs.size + 1 := Heap.size_push ..
  have hold : ∀ b o, s.heap.get? b = some o → (s.heap.push (sObj "set" (emptyD w))).get? b = some o := fun b o e => Heap.get?_push_of_some _ e
  have t1 := sub_str_set
  have t2 := sub_str_frozenset
  have t3 : (Value.type "str" == Value.type "dict") = false := by decide
  generalize s.heap.push (sObj "set" (emptyD w)) = h1 at hS hz hold ⊢
  unfold Builtin.«set.__init__» noKeywords Builtin.Frozenset.updateFrom
  generalize hPI : pyIter = PI
  wp_walk
  subst hPI
  refine wpAny_pyIter_str fun o St W hst => wpAny_bind (wpAny_runValue ?_)
  have hx : ∀ b u', h1.get? b = some u' → b ≠ h1.objs.size := fun b u' e => Nat.ne_of_lt (Heap.lt_size e)
  have hSf : s.heap.objs.size ∉ [h1.objs.size] := fun z => hx _ _ hS (List.mem_singleton.mp z)
  refine loop_tx (W _ (by simp [hh])).toS s.heap.objs.size hSf rfl hb _ 0 _ rfl (Nat.zero_le _) hst ⟨_, [], Heap.get?_push_of_some _ hS, tx_empty, Nat.le_refl _, fun k => by simp⟩ fun s2 D l mv hS2 F hm => ?_
  refine wpAny_pure (wpAny_pure (hR _ (h s2 D l (fun b o' e => ?_) mv.gens mv.os hS2 F hm)))
  refine mv.heap b o' (fun z => ?_) (Heap.get?_push_of_some _ (hold b o' e))
  rcases List.mem_cons.mp z with z | z
  · rw [z] at e
    exact Nat.lt_irrefl _ (Heap.lt_size e)
  · exact hx _ _ (hold b o' e) (List.mem_singleton.mp z)
/-! ### sorted(set of texts) -/
theorem strs_of : ∀ (l : List Value), (∀ v ∈ l, ∃ k tk, v = Value.str k tk) → StrsAre l (l.map strOf)
  | [], _ => .nil
  | v :: l, h => by
    obtain ⟨k, tk, rfl⟩ := h v (List.mem_cons_self ..)
    exact .cons k tk (strs_of l fun u hu => h u (List.mem_cons_of_mem _ hu))
theorem perm_same {α : Type} [DecidableEq α] : ∀ (l m : List α), l.Nodup → (∀ k ∈ l, k ∈ m) → m.length ≤ l.length → m.Perm l
  | [], m, _, _, h => by rw [List.length_eq_zero_iff.mp (Nat.le_zero.mp h)]
  | x :: l, m, d, s, h => by
    obtain ⟨d1, d2⟩ := List.nodup_cons.mp d
    have hx := s x (List.mem_cons_self ..)
    have p := List.perm_cons_erase hx
    have hl := p.length_eq
    simp only [List.length_cons] at hl h
    exact p.trans ((perm_same l (m.erase x) d2 (fun k hk => (List.mem_erase_of_ne fun z : k = x => d1 (by rw [← z]; exact hk)).mpr (s k (List.mem_cons_of_mem _ hk))) (by omega)).cons x)
theorem Tx.vals {D : SD} {l : List Str} (F : Tx P w D l) : (∀ e ∈ D.1.toList, ∃ k tk, e.2 = Value.str k tk ∧ k ∈ l) ∧ (D.1.toList.map fun e => strOf e.2).Perm l := by
  have h1 : ∀ e ∈ D.1.toList, ∃ k tk, e.2 = Value.str k tk ∧ k ∈ l := fun e he => by
    obtain ⟨⟨k, hk, _⟩, _⟩ := F.ok.el e he
    have hi : Value.isStrOf k e.2 = true := hk
    obtain ⟨hv, v⟩ := e
    cases v <;> simp [Value.isStrOf] at hi
    exact ⟨_, _, rfl, (F.ok.mem _).2 ⟨_, he, by subst hi; exact Froz.is_str _ _⟩⟩
  refine ⟨h1, ?_⟩
  have sub : ∀ k ∈ l, k ∈ D.1.toList.map fun e => strOf e.2 := fun k hk => by
    obtain ⟨e, he, hi⟩ := (F.ok.mem k).1 hk
    refine List.mem_map.mpr ⟨e, he, ?_⟩
    have hi : Value.isStrOf k e.2 = true := hi
    obtain ⟨hv, v⟩ := e
    cases v <;> simp [Value.isStrOf] at hi
    exact hi
  have len : (D.1.toList.map fun e => strOf e.2).length = l.length := by
    rw [List.length_map, Array.length_toList]
    exact F.ok.sz
  exact perm_same _ _ F.nd sub (Nat.le_of_eq len)
theorem sorted_set_text {a : Addr} {D : SD} {l : List Str} {Q : Value → Shared → Prop} (ho : s.heap.get? a = some (sObj "set" D)) (F : Tx P w D l) (hh : A.handled = none) (h64 : l.length < 64)
    (h : ∀ (s' : Shared) p (out : List Value) (c : Nat) (ys : List Str), (∀ b o, s.heap.get? b = some o → s'.heap.get? b = some o) → s'.gens = s.gens → s'.os = s.os → s.heap.objs.size ≤ p →
      s'.heap.get? p = some (seqObj "list" out.toArray c) → StrsAre out ys → ys.Perm l → sortedS ys = true → Q (.ref p) s') :
    wpAny (model P w) A (call (.builtin "sorted") [.ref a]) Q E s := by
  obtain ⟨v1, v2⟩ := F.vals
  have hsz : D.1.size = l.length := F.ok.sz
  refine Calls.call_function_entry kind_sorted plain_sorted entry_sorted (args_sorted1 _) ?_
  unfold Builtin.«sorted»
  refine wpAny_bind (m := checkCount "sorted" 1 1 _) (wpAny_pure ?_)
  refine wpAny_bind (collect_set (A := A.in1) (es := D.1) (ep := D.2.1) (t := D.2.2) hh ⟨_, ho, rfl, rfl⟩ F.ok.fit (by rw [hsz]; exact Nat.lt_trans h64 (by decide)) F.ris F.led fun s1 vs k1 z1 g1 o1 pm => ?_)
  have len : vs.length = l.length := by rw [pm.length_eq, List.length_map, Array.length_toList, hsz]
  have hS : StrsAre vs (vs.map strOf) := strs_of vs fun v hv => by
    obtain ⟨e, he, rfl⟩ := List.mem_map.mp (pm.mem_iff.mp hv)
    obtain ⟨k, tk, q, _⟩ := v1 e he
    exact ⟨k, tk, q⟩
  have pl : (vs.map strOf).Perm l := (pm.map strOf).trans (by rw [List.map_map]; exact v2)
  refine wpAny_bind (wpAny_newList ?_ (by rw [len, sizeLine_eq]; omega))
  have hL : (s1.heap.push (seqObj "list" vs.toArray 0)).get? s1.heap.objs.size = some (seqObj "list" vs.toArray 0) := Heap.get?_push_size _ rfl
  refine wpAny_bind (wpAny_holding (wpAny_call_entry slot_list_sort ⟨_, hL, rfl⟩ entry_list_sort
    (list_sort_treeK strKind_oneLt hL hS.keysOf (fun v₁ v₂ rest e => keyKind_strs (by rw [← e]; exact hS)) (by rw [len]; exact h64) fun st' hp hs => ⟨_, rfl, ?_⟩) (args_list_sort _)))
  obtain ⟨ys, y1, y2, y3⟩ := sorted_out_str hS hp hs
  obtain ⟨c, hc⟩ := sortedHeap_at (vs := vs) (out := (arrOf st').map (·.2)) hL
  refine wpAny_pure ⟨_, rfl, h _ s1.heap.objs.size _ c ys (fun b u e => ?_) g1 o1 z1 (by rw [Array.toArray_toList]; exact hc) y1 (y2.trans pl) y3⟩
  have q := k1 b u e
  have hb := Heap.lt_size q
  show (sortedHeap (s1.heap.push (seqObj "list" vs.toArray 0)) s1.heap.objs.size vs _).get? b = some u
  rw [sortedHeap_old (Nat.ne_of_lt hb) (by rw [size_push']; exact Nat.lt_succ_of_lt hb)]
  exact Heap.get?_push_of_some _ q
end
/-! ### the rules -/
def SetTx (P : Program) (w : World) (h : Heap) (a : Addr) (l : List Str) : Prop := ∃ D, h.get? a = some (sObj "set" D) ∧ Tx P w D l
def SetTxO (P : Program) (w : World) (a : Addr) (l : List Str) : HO := .ext fun h => SetTx P w h a l
section
variable {X : Cx}
theorem setTxO_new {P : Program} {w : World} {H : Hp} {h : Heap} {a : Addr} {l : List Str} (R : SetTx P w h a l) : ObjOk P w H h a (SetTxO P w a l) := by
  have ⟨D, ho, F⟩ := R
  exact ⟨R, ⟨_, ho⟩, fun h1 h2 z p => let ⟨D, e, F⟩ := z; ⟨D, p _ e, F⟩⟩
/-- a call of a built-in that lays one new object and moves nothing else -/
theorem laid_new {pins : List (Addr × Obj)} {σ : L2.St} {H : Hp} {s s' : Shared} {p : Addr} {o : HO} {Q : VK} (I : Inv X pins σ H s) (k : ∀ b u, s.heap.get? b = some u → s'.heap.get? b = some u) (g : s'.gens = s.gens) (ho : s'.os = s.os)
    (hp : s.heap.objs.size ≤ p) (new : ObjOk X.prog X.w (upd H p o) s'.heap p o) (q : H p = none → Q (.ref p) (upd H p o)) : EP X pins σ Q (.ref p) s' := by
  have hn : H p = none := I.hok.fresh hp
  exact ⟨.ref p, _, I.call' ho (ch := []) (Un.laid k hp hn) (I.hok.laid k hp new) (by rw [g]; exact I.bare) (fun _ z => nomatch z), rfl, q hn⟩
/-- set(text) -/
theorem cr_setText (hc : X.calm = true) : CallR X (.type "set") (fun xs H Q => ∃ x, xs = [.str x] ∧ x.length < 4000 ∧ ∀ a l, H a = none → l.Nodup → (∀ k, k ∈ l ↔ k ∈ parts x) → Q (.ref a) (upd H a (SetTxO X.prog X.w a l))) := by
  intro pins s σ H vs us Q I r h
  obtain ⟨x, rfl, hx, q⟩ := h
  obtain ⟨u, rfl, rx⟩ := vals1 r
  obtain ⟨tk, rfl⟩ := rx
  have hx : x.cps.size < 4000 := hx
  refine call_set_text (I.ok.hd hc) (Nat.lt_trans (Nat.succ_lt_succ hx) (by decide)) fun s' D l k g o hS F hm => ?_
  exact laid_new I k g o (Nat.le_refl _) (setTxO_new ⟨D, hS, F⟩) fun hn => q _ l hn F.nd hm
/-- sorted(set of texts) -/
theorem cr_sortedText (hc : X.calm = true) : CallR X (.builtin "sorted") (fun xs H Q => ∃ a l, xs = [.ref a] ∧ H a = some (SetTxO X.prog X.w a l) ∧ l.length < 64 ∧ ∀ ys p, ys.Perm l → sortedS ys = true → H p = none → Q (.ref p) (upd H p (.lst (ys.map .str)))) := by
  intro pins s σ H vs us Q I r h
  obtain ⟨a, l, rfl, ha, h64, q⟩ := h
  rw [Vals.ref1 r]
  obtain ⟨D, hS, F⟩ : SetTx X.prog X.w s.heap a l := (I.hok a _ ha).1
  refine sorted_set_text hS F (I.ok.hd hc) h64 fun s' p out c ys k g o hp hg hv pm so => ?_
  have len : (ys.map V.str).length ≤ sizeLine := by rw [List.length_map, pm.length_eq, sizeLine_eq]; omega
  have new : ObjOk X.prog X.w (upd H p (.lst (ys.map V.str))) s'.heap p (.lst (ys.map .str)) := ⟨len, out, c, vals_of_strs hv, hg⟩
  exact laid_new I k g o hp new fun hn => q ys p pm so hn
/-- list(text) -/
theorem cr_listText (hc : X.calm = true) : CallR X (.type "list") (fun xs H Q => ∃ x, xs = [.str x] ∧ x.length ≤ sizeLine ∧ ∀ p, H p = none → Q (.ref p) (upd H p (.lst ((parts x).map .str)))) := by
  intro pins s σ H vs us Q I r h
  obtain ⟨x, rfl, hx, q⟩ := h
  obtain ⟨u, rfl, rx⟩ := vals1 r
  obtain ⟨tk, rfl⟩ := rx
  have hx : x.cps.size ≤ sizeLine := hx
  refine call_list_str (I.ok.hd hc) x tk (hn := hx) fun h' t' acc c k hS it => ?_
  have hv : StrsAre acc.toList (parts x) := by
    have st := strs_of acc.toList fun v hv => by
      obtain ⟨i, hi, e⟩ := List.getElem_of_mem hv
      obtain ⟨c, u, _, q⟩ := it.2 i v (by rw [← Array.getElem?_toList, List.getElem?_eq_getElem hi, e])
      exact ⟨_, u, q⟩
    have e : acc.toList.map strOf = parts x := by
      apply List.ext_getElem?
      intro i
      rw [List.getElem?_map, List.getElem?_map, Array.getElem?_toList, Array.getElem?_toList]
      cases ha : acc[i]? with
      | none =>
        have z : x.cps[i]? = none := by
          have z1 := Array.getElem?_eq_none_iff.mp ha
          rw [it.1] at z1
          exact Array.getElem?_eq_none_iff.mpr z1
        rw [z]; rfl
      | some v =>
        obtain ⟨c, u, h1, h2⟩ := it.2 i v ha
        rw [h1, h2]; rfl
    rw [e] at st
    exact st
  have len : ((parts x).map V.str).length ≤ sizeLine := by
    rw [List.length_map, List.length_map, Array.length_toList]
    exact hx
  have new : ObjOk X.prog X.w (upd H s.heap.objs.size (.lst ((parts x).map V.str))) h' s.heap.objs.size (.lst ((parts x).map .str)) := ⟨len, acc.toList, c, vals_of_strs hv, by rw [Array.toArray_toList]; exact hS⟩
  exact laid_new (s' := { s with heap := h', toks := t' }) I k rfl rfl (Nat.le_refl _) new (q _)
end
end Vs

set_option Elab.async false
set_option linter.all false
set_option maxRecDepth 100000
set_option maxHeartbeats 4000000
namespace L2
namespace Vx
open PySem PySem.Spec PyProof.Rows
/-! ### a def that is called where no repr is under way (so that repr may be called in it) -/
structure FnG (P : Program) (w : World) (K : PySem.W.Frag) (mg : Str → Option Value) (base : Heap) (k : Nat) (f : Addr) (fd : FuncData) (ps : List Str) (sp : Sp) : Prop where
  run : ∀ (A : Around) (outer : List Env) (s : Shared) (H : Hp) (args : Args) (us : List Value) (vs : List V) (Q : VK) (E : XK), Room k A → A.guards = some [] → Env0 P w K mg base A outer s H → BindsTo s fd args (ps.zip us) → Vals vs us → sp vs H Q E →
    codeAny (model P w) A (.call (.ref f) args) (CR CX0 outer P w H s Q E) s
section
variable {P : Program} {w : World} {K : PySem.W.Frag} {mg : Str → Option Value} {base : Heap}
theorem FunG {x qual : Str} {st : Stmt} {f : Addr} {fd : FuncData} {N ps : List Str} {k : Nat} {sp : Sp} (F : Fun K x qual st f fd) (S : FnScope N ps (defScope st)) (len : ∀ vs H Q E, sp vs H Q E → vs.length = ps.length)
    (hbody : ∀ (cdv : Value) (A : Around) (outer : List Env) (s : Shared) (H : Hp) (vs : List V) (Q : VK) (E : XK), Room k (A.deeper (envOfC qual (defScope st) s.heap.objs.size f cdv)) → A.guards = some [] → sp vs H Q E →
      ∃ t, PSs (cxOf CX0 P w K mg base N qual (defScope st) f cdv A outer s H E).nox (defBody st) t ∧ t { nx := fun _ H' => Q .non H', rt := Q } (start N vs) H) : FnG P w K mg base (k + 1) f fd ps sp := by
  obtain ⟨oc, od, kV, doc, pm, an, cdv, ct, osl, rfl, lk, hcd⟩ := F.ex
  refine ⟨fun A outer s H args us vs Q E hr hgd e0 hb r hsp => ?_⟩
  obtain ⟨t, ht0, hq⟩ := hbody cdv A outer s H vs Q E (hr.deeper _) hgd hsp
  have ht := ht0.nox
  have hl := len _ _ _ _ hsp
  have KX : K.In s.heap := e0.mod.kin.keeps fun b o e => (e0.bs b o e).1
  have lim : s.heap.NoLimit := e0.mod.nolimit.keeps fun b o e => (e0.bs b o e).1
  have hkind : ∀ y ∈ ps.zip us, (defScope st).names.lookup y.1 = some .local ∨ ((defScope st).names.lookup y.1 = some .cell ∧ ((cellsFrom (s.heap.objs.size + 1) (defScope st).names []).lookup y.1).isSome = true) := by
    rintro ⟨n, v⟩ hy
    rcases S.par n (List.of_mem_zip hy).1 with q | q
    · exact .inl q
    · exact .inr ⟨q, PySem.W.cellsFrom_some _ _ _ (.inl q)⟩
  refine codeAny_call_function hr.depth (KX _ _ lk) rfl S.co S.gen rfl (PySem.W.codeRec_of KX hcd) (hb _ _ _ _ ?_)
  refine wpAny_newFunctionEnv_cells S.kind hkind fun env he s1 x => ?_
  subst he
  refine ⟨lim.keeps x.toInCall.keep, codeAny_func ?_⟩
  have I := inv_start (CX := CX0) (E := E) S hr.hd e0 hl r x
  refine wpAny_mono (ht.run [] s1 (start N vs) H _ I hq) (fun fl s' hs => ?_) fun e s' hs => hs
  cases fl with
  | ret u =>
    obtain ⟨v, σ', H', J, rv, q⟩ := hs
    exact ⟨v, H', J.os, J.bare, J.base, J.hok, rv, q⟩
  | next =>
    obtain ⟨σ', H', J, q⟩ := hs
    exact ⟨V.non, H', J.os, J.bare, J.base, J.hok, rfl, q⟩
  | brk => obtain ⟨_, _, _, q⟩ := hs; exact q.elim
  | cont => obtain ⟨_, _, _, q⟩ := hs; exact q.elim
theorem law_callG {mb : Str → Option Value} {k : Nat} {fa a : Addr} {fd : FuncData} {x : Str} {sp : Sp} {s₁ : Shared} {vs : List Value} {ns : List Int}
    (KX : K.In s₁.heap) (hns : s₁.heap.Ns mainGlobals mg) (hb : s₁.heap.Ns builtinsNs mb) (hbb : ∀ x : Str, x ≠ "__name__" → mb x = bootBuiltins x) (hlim : s₁.heap.NoLimit) (hg : s₁.gens = #[])
    (ha : s₁.heap.get? a = some { cls := .type "list", data := .seq vs.toArray }) (hi : IntsAre vs ns) (hl : ns.length ≤ sizeLine) (hr : Room k callerA)
    (F : ∀ base : Heap, K.In base → base.Ns mainGlobals mg → FnG P w K mg base k fa fd [x] sp) (hbind : ∀ (s : Shared) (u : Value), BindsTo s fd ⟨[u], []⟩ [(x, u)])
    (hsp : ∀ H : Hp, Only H → SqL K H a (ns.map V.int) → sp [.ref a] H (fun v _ => v = .bl true) fun _ _ _ => False) :
    codeAny (model P w) callerA (.call (.ref fa) ⟨[.ref a], []⟩) (fun r s' => r = .ok (.ret (.bool true)) ∧ OldK s₁.heap s'.heap ∧ s'.os = s₁.os ∧ AllBare s'.gens) s₁ := by
  have rv := vals_ints hi
  have lenV := hi.length
  have core : ∀ H : Hp, Only H → SqL K H a (ns.map V.int) → HOk P w H s₁.heap → (∀ b, H b ≠ none → b = a) → (H a ≠ none → K.lookup a = none) →
      codeAny (model P w) callerA (.call (.ref fa) ⟨[.ref a], []⟩) (fun r s' => r = .ok (.ret (.bool true)) ∧ OldK s₁.heap s'.heap ∧ s'.os = s₁.os ∧ AllBare s'.gens) s₁ := by
    intro H hO hS hok hA hK
    have only : ∀ {b : Addr} {u : HO}, H b = some u → b = a := fun {b u} q => hA b (by rw [q]; exact fun z => nomatch z)
    have nsK : ∀ {b : Addr} {m : Str → Option Value}, s₁.heap.Ns b m → (hidT s₁.heap H).Ns b m := by
      rintro b m ⟨o, es, ep, e, d, r⟩
      refine ⟨o, es, ep, hidT_get e ?_, d, r⟩
      cases q : H b with
      | none => rfl
      | some u =>
        obtain rfl := only q
        rw [ha] at e
        cases e
        exact nomatch (show Data.seq vs.toArray _ = Data.dict es ep from d)
    have hKb : K.In (hidT s₁.heap H) := by
      intro b o e
      refine hidT_get (KX b o e) ?_
      cases q : H b with
      | none => rfl
      | some u =>
        obtain rfl := only q
        rw [hK (by rw [q]; exact fun z => nomatch z)] at e
        cases e
    have hM : Mod K mg (hidT s₁.heap H) := ⟨hKb, nsK hns, ⟨mb, nsK hb, hbb⟩, let ⟨mc, h1, h2⟩ := hlim; ⟨mc, nsK h1, h2⟩⟩
    have e0 : Env0 P w K mg (hidT s₁.heap H) callerA [] s₁ H :=
      ⟨rfl, hM, fun b o e => of_hidT e, Nat.le_of_eq (hidT_size _ _), trivial, fun b hb => absurd (show b ∈ ([] : List Addr) from hb) (by simp), hok, .of_eq hg⟩
    refine codeAny_mono ((F _ hKb (nsK hns)).run callerA [] s₁ H ⟨[.ref a], []⟩ [.ref a] [.ref a] _ _ hr rfl e0 (hbind s₁ (.ref a)) (.cons rfl .nil) (hsp H hO hS)) fun r s' h => ?_
    cases r with
    | error e => exact (show False from h).elim
    | ok fl =>
      cases fl with
      | next => exact False.elim h
      | brk => exact False.elim h
      | cont => exact False.elim h
      | ret u =>
        obtain ⟨v, H', os, bare, un, hok', r', q⟩ := h
        obtain rfl : v = .bl true := q
        obtain rfl : u = Value.bool true := r'
        refine ⟨rfl, OldK.of_keep fun b o e => ?_, os, bare⟩
        cases q : H b with
        | none => exact un.keep b o e q (fun z => absurd (show b ∈ ([] : List Addr) from z) (by simp)) (by simp)
        | some u =>
          rcases hO b with z | ⟨ob, xs, z⟩
          · rw [q] at z; cases z
          · obtain ⟨e1, _⟩ := hok b _ z
            obtain ⟨e2, _⟩ := hok' b _ (un.frzs b ob _ z)
            rw [e] at e1
            cases e1
            exact e2
  cases hk : K.lookup a with
  | some o =>
    have e := KX a o hk
    rw [ha] at e
    cases e
    exact core (fun _ => none) (fun _ => .inl rfl) (.inr ⟨_, vs.toArray, _, hk, rfl, rfl, rfl, by rw [List.size_toArray, lenV]; exact hl, by simpa using rv⟩) (fun b u z => nomatch (show (none : Option HO) = some u from z)) (fun b z => absurd rfl z) fun z => absurd rfl z
  | none =>
    have at_a : (fun b => if b = a then some (HO.frz { cls := .type "list", data := .seq vs.toArray } (.lst (ns.map V.int))) else none) a = some (.frz { cls := .type "list", data := .seq vs.toArray } (.lst (ns.map V.int))) := if_pos rfl
    refine core (fun b => if b = a then some (.frz { cls := .type "list", data := .seq vs.toArray } (.lst (ns.map V.int))) else none) (fun b => ?_) (.inl (.inr ⟨_, at_a⟩)) (fun b u z => ?_) (fun b z => ?_) fun _ => hk
    · by_cases hb : b = a
      · exact .inr ⟨_, _, if_pos hb⟩
      · exact .inl (if_neg hb)
    · by_cases hb : b = a
      · cases (if_pos hb).symm.trans z
        subst hb
        exact ⟨ha, by rw [List.length_map]; exact hl, vs, _, rv, ha⟩
      · cases (if_neg hb).symm.trans z
    · by_cases hb : b = a
      · exact hb
      · exact absurd (if_neg hb) z
end
theorem walk_ofG {l : PySem.W.OpenLaw} {n k : Nat} {q : Program} {loose : List Str} {XP : (Str → Option Value) → Heap → Prop} {YP : World → Heap → Prop} {d : DefRec} {K : Params → PySem.W.Frag} {sp : World → Sp} {x : Str}
    (hn : l.most = some n) (hn2 : n ≤ sizeLine) (hdf : d.params.defaults = []) (hr : Room k callerA) (hY : ∀ (w : World) (h : Heap), YP w h → (K w.params).In h)
    (F : ∀ (w : World) (mg : Str → Option Value) (fa : Addr) (h : Heap), (K w.params).In h → h.Ns mainGlobals mg → mg d.name = some (.ref fa) →
      ∃ fd : FuncData, (∀ (s : Shared) (u : Value), BindsTo s fd ⟨[u], []⟩ [(x, u)]) ∧ ∀ base : Heap, (K w.params).In base → base.Ns mainGlobals mg → FnG l.prog w (K w.params) mg base k fa fd [x] (sp w))
    (hsp : ∀ (w : World) (H : Hp) (a : Addr) (ns : List Int), ns.length ≤ n → Only H → SqL (K w.params) H a (ns.map V.int) → sp w [.ref a] H (fun v _ => v = .bl true) fun _ _ _ => False) :
    PySem.W.WalkO q loose XP YP l.row.toRowW d [] (fun f vs => PySem.call f vs) := by
  refine Att.attach_call hn hdf fun w s₀ s₁ mg mb fa o pm cd doc a vs ns G Y ho hd hcd hmg hobj hints hlen hg => ?_
  have KX := hY w _ Y
  obtain ⟨fd, hb, hF⟩ := F w mg fa _ KX G.T.g hmg
  exact law_callG KX G.T.g G.T.b G.T.builtins G.T.nolimit hg hobj hints (Nat.le_trans hlen hn2) hr hF hb (fun H hO hS => hsp w H a ns hlen hO hS)
end Vx
end L2

set_option Elab.async false
set_option linter.all false
set_option maxRecDepth 100000
set_option maxHeartbeats 4000000
/-! ### values that can be shown: repr of any of them, whatever stands in sys.modules' place -/
namespace PySem
namespace Vr
section
mutual
inductive RdX (h : Heap) : Value → PyData → Prop
  | leaf {v d} (r : Reads h v d []) : RdX h v d
  | list {a o vs n xs} : h.get? a = some o → o.cls = .type "list" → o.data = .seq vs n → RdXAll h vs.toList xs → RdX h (.ref a) (.list xs)
  | tuple {a o vs n xs} : h.get? a = some o → o.cls = .type "tuple" → o.data = .seq vs n → RdXAll h vs.toList xs → RdX h (.ref a) (.tuple xs)
  | dict {a o es n kvs} : h.get? a = some o → o.cls = .type "dict" → o.data = .dict es n → ReadsAll h (es.toList.map (·.key)) (kvs.map (·.1)) [] → ReadsAll h (es.toList.map (·.val)) (kvs.map (·.2)) [] → (a == sysModules) = false → RdX h (.ref a) (.dict kvs)
inductive RdXAll (h : Heap) : List Value → List PyData → Prop
  | nil : RdXAll h [] []
  | cons {v vs d ds} : RdX h v d → RdXAll h vs ds → RdXAll h (v :: vs) (d :: ds)
end
mutual
theorem RdX.reads {h : Heap} : ∀ {v : Value} {d : PyData}, RdX h v d → ∃ as, Reads h v d as
  | _, _, .leaf r => ⟨[], r⟩
  | _, _, .list h1 h2 h3 h4 => let ⟨as, r⟩ := RdXAll.reads h4; ⟨_, .list h1 h2 h3 r⟩
  | _, _, .tuple h1 h2 h3 h4 => let ⟨as, r⟩ := RdXAll.reads h4; ⟨_, .tuple h1 h2 h3 r⟩
  | _, _, .dict h1 h2 h3 h4 h5 _ => ⟨_, .dict h1 h2 h3 h4 h5⟩
theorem RdXAll.reads {h : Heap} : ∀ {vs : List Value} {ds : List PyData}, RdXAll h vs ds → ∃ as, ReadsAll h vs ds as
  | _, _, .nil => ⟨[], .nil⟩
  | _, _, .cons r rs => let ⟨as, q⟩ := RdX.reads r; let ⟨bs, qs⟩ := RdXAll.reads rs; ⟨_, .cons q qs⟩
end
variable {prog : Program} {w : World} {h₀ : Heap}
theorem dict_parts {a : Addr} {o : Obj} {es : Array DictEntry} {n : Nat} {kvs : List (PyData × PyData)} (h1 : h₀.get? a = some o) (h2 : o.cls = .type "dict") (h3 : o.data = .dict es n) (h4 : ReadsAll h₀ (es.toList.map (·.key)) (kvs.map (·.1)) [])
    (h5 : ReadsAll h₀ (es.toList.map (·.val)) (kvs.map (·.2)) []) (hs : PyData.showableKv kvs = true) (hz : (dictText (PyData.shownKv kvs)).length ≤ sizeLine) :
    ∃ bs, a ∉ bs ∧ ReadAtMost h₀ (PyData.depthKv kvs) bs ∧ ReprEntriesK prog w bs h₀ (PyData.depthKv kvs) es.toList (PyData.shownKv kvs) := by
  obtain ⟨s1, s2⟩ := PyData.showableKv_split kvs hs
  have no : sysModules ∉ ([] : List Addr) := fun z => nomatch z
  obtain ⟨b1, g1, k1⟩ := ReprAllK.of_readsAll (prog := prog) (w := w) h4 s1 (fun _ => no) fun t ht => by
    obtain ⟨p, hp, hl⟩ := PyData.shownKv_key_le kvs t ht
    exact Nat.le_trans hl (Nat.le_trans (dictText_mem_le hp) hz)
  obtain ⟨b2, g2, k2⟩ := ReprAllK.of_readsAll (prog := prog) (w := w) h5 s2 (fun _ => no) fun t ht => by
    obtain ⟨p, hp, hl⟩ := PyData.shownKv_val_le kvs t ht
    exact Nat.le_trans hl (Nat.le_trans (dictText_mem_le hp) hz)
  have g : ReadAtMost h₀ (PyData.depthKv kvs) (b1 ++ b2) := (g1.mono (PyData.depthAll_keys_le kvs)).append (g2.mono (PyData.depthAll_vals_le kvs))
  refine ⟨b1 ++ b2, not_mem_of_deeper (.dict h1 h2 h3 h4 h5) (by simp only [PyData.depth]; omega) g, g, ?_⟩
  rw [PyData.shownKv_eq]
  exact ReprEntriesK.of_two es.toList _ _ (k1.more_le (fun b hb => List.mem_append_left _ hb) (PyData.depthAll_keys_le kvs)) (k2.more_le (fun b hb => List.mem_append_right _ hb) (PyData.depthAll_vals_le kvs))
mutual
theorem reprK_of : ∀ {v : Value} {d : PyData}, RdX h₀ v d → d.showable = true → d.shown.length ≤ sizeLine → ∃ bs, ReadAtMost h₀ d.depth bs ∧ ReprK prog w bs h₀ d.depth v d.shown
  | _, _, .leaf r, hs, hz => ReprK.of_reads r hs (fun _ z => nomatch z) hz
  | _, _, .list (a := a) (vs := vs) (xs := xs) h1 h2 h3 h4, hs, hz => by
    simp only [PyData.shown] at hz
    obtain ⟨bs, g, k⟩ := reprAllK_of h4 (by simpa [PyData.showable] using hs) fun t ht => Nat.le_trans (listText_mem_le ht) hz
    obtain ⟨as, r⟩ := RdX.reads (.list h1 h2 h3 h4)
    refine ⟨a :: bs, ReadAtMost.cons r (by simp only [PyData.depth]; omega) g, ?_⟩
    have na : a ∉ bs := not_mem_of_deeper r (by simp only [PyData.depth]; omega) g
    simp only [PyData.depth, PyData.shown]
    obtain ⟨l⟩ := vs
    cases l with
    | nil =>
      cases (show RdXAll h₀ [] xs from h4)
      simp only [PyData.shownAll, listText_nil]
      exact ReprK.listEmpty h1 h2 h3
    | cons x l => exact ReprK.list h1 h2 h3 na (by simpa using k.length_eq) fun i y e => k.item i y (by simpa using e)
  | _, _, .tuple (a := a) (xs := xs) h1 h2 h3 h4, hs, hz => by
    simp only [PyData.shown] at hz
    obtain ⟨bs, g, k⟩ := reprAllK_of h4 (by simpa [PyData.showable] using hs) fun t ht => Nat.le_trans (tupleText_mem_le ht) hz
    obtain ⟨as, r⟩ := RdX.reads (.tuple h1 h2 h3 h4)
    refine ⟨a :: bs, ReadAtMost.cons r (by simp only [PyData.depth]; omega) g, ?_⟩
    simp only [PyData.depth, PyData.shown]
    exact ReprK.tuple h1 h2 h3 (not_mem_of_deeper r (by simp only [PyData.depth]; omega) g) k
  | _, _, .dict (a := a) (kvs := kvs) h1 h2 h3 h4 h5 h6, hs, hz => by
    simp only [PyData.shown] at hz
    obtain ⟨bs, na, g, k⟩ := dict_parts (prog := prog) (w := w) h1 h2 h3 h4 h5 (by simpa [PyData.showable] using hs) hz
    refine ⟨a :: bs, ReadAtMost.cons (.dict h1 h2 h3 h4 h5) (by simp only [PyData.depth]; omega) g, ?_⟩
    simp only [PyData.depth, PyData.shown]
    exact ReprK.dict h1 h2 h3 h6 na k
theorem reprAllK_of : ∀ {vs : List Value} {ds : List PyData}, RdXAll h₀ vs ds → PyData.showableAll ds = true → (∀ t ∈ PyData.shownAll ds, t.length ≤ sizeLine) →
    ∃ bs, ReadAtMost h₀ (PyData.depthAll ds) bs ∧ ReprAllK prog w bs h₀ (PyData.depthAll ds) vs (PyData.shownAll ds)
  | _, _, .nil, _, _ => ⟨[], (fun _ h => nomatch h), by simp only [PyData.shownAll]; exact .nil⟩
  | _, _, .cons (d := d) (ds := ds) r rs, hs, hz => by
    have hs' : d.showable = true ∧ PyData.showableAll ds = true := by simpa [PyData.showableAll] using hs
    obtain ⟨b1, g1, k1⟩ := reprK_of r hs'.1 (hz _ (by simp only [PyData.shownAll]; exact List.mem_cons_self ..))
    obtain ⟨b2, g2, k2⟩ := reprAllK_of rs hs'.2 (fun t ht => hz t (by simp only [PyData.shownAll]; exact List.mem_cons_of_mem _ ht))
    refine ⟨b1 ++ b2, fun b hm => ?_, ?_⟩
    · simp only [PyData.depthAll]
      rcases List.mem_append.mp hm with hm | hm
      · obtain ⟨d', as', r', hd'⟩ := g1 b hm
        exact ⟨d', as', r', Nat.le_trans hd' (Nat.le_max_left _ _)⟩
      · obtain ⟨d', as', r', hd'⟩ := g2 b hm
        exact ⟨d', as', r', Nat.le_trans hd' (Nat.le_max_right _ _)⟩
    · simp only [PyData.depthAll, PyData.shownAll]
      exact .cons ((k1.more fun b hb => List.mem_append_left _ hb).level_le (Nat.le_max_left _ _)) (k2.more_le (fun b hb => List.mem_append_right _ hb) (Nat.le_max_right _ _))
end
/-- repr(v) -/
theorem repr_call {s : Shared} {A : Around} {E : Value → Shared → Prop} {Q : Value → Shared → Prop} {v : Value} {d : PyData} (r : RdX s.heap v d) (hs : d.showable = true) (hz : d.shown.length ≤ sizeLine) (hg : A.guards = some []) (hu : A.units + (d.depth + 1) < cLine)
    (hQ : ∀ h' u tk, (∀ b o, s.heap.get? b = some o → h'.get? b = some o) → Q (.str d.shown u) { s with heap := h', toks := tk }) : wpAny (model prog w) A (call (.builtin "repr") [v]) Q E s := by
  have hu' : A.in1.units + d.depth < cLine := by
    show A.units + 1 + d.depth < cLine
    omega
  have keep : ∀ b o, s.heap.get? b = some o → s.heap.get? b = some o := fun _ _ e => e
  cases r with
  | leaf r =>
    cases r with
    | none => simp only [PyData.shown] at hQ; exact P.repr_of_none (hQ s.heap _ _ keep)
    | bool b => simp only [PyData.shown] at hQ; exact P.repr_of_bool (hQ s.heap _ _ keep)
    | int i t => simp only [PyData.shown] at hQ; exact P.repr_of_int (by simpa [PyData.showable] using hs) (hQ s.heap _ _ keep)
    | str x t => simp only [PyData.shown] at hQ hz; exact P.repr_of_str (hQ s.heap _ _ keep) hz
    | tuple h1 h2 h3 h4 => exact repr_of_reads' (.tuple h1 h2 h3 h4) hs (fun _ z => nomatch z) hg hu keep (fun h' u tk k => hQ h' u tk k) hz
  | list h1 h2 h3 h4 =>
    rename_i a o vs n xs
    obtain ⟨as, r⟩ := RdX.reads (.list h1 h2 h3 h4)
    simp only [PyData.shown] at hQ hz
    obtain ⟨bs, g, k⟩ := reprAllK_of (prog := prog) (w := w) h4 (by simpa [PyData.showable] using hs) fun t ht => Nat.le_trans (listText_mem_le ht) hz
    have na : a ∉ bs := not_mem_of_deeper r (by simp only [PyData.depth]; omega) g
    simp only [PyData.depth] at hu'
    refine call_repr_slot (T := "list") (idr := "list.__repr__") (by omega) ⟨o, h1, h2⟩ F.slot_list_repr.toG ?_
    obtain ⟨l⟩ := vs
    cases l with
    | nil =>
      cases (show RdXAll s.heap [] xs from h4)
      simp only [PyData.shownAll, listText_nil] at hQ
      exact call_list_repr_empty ⟨o, h1, h2⟩ h1 h3 ⟨_, _, rfl, hQ s.heap _ _ keep⟩
    | cons x l => exact call_list_reprK h1 h2 h3 na (by simpa using k.length_eq) (fun i y e => k.item i y (by simpa using e)) hg (fun b _ => Clear.nil b) hu' keep (fun h' u tk kk => ⟨_, _, rfl, hQ h' u tk kk⟩) hz
  | tuple h1 h2 h3 h4 =>
    rename_i a o vs n xs
    obtain ⟨as, r⟩ := RdX.reads (.tuple h1 h2 h3 h4)
    simp only [PyData.shown] at hQ hz
    obtain ⟨bs, g, k⟩ := reprAllK_of (prog := prog) (w := w) h4 (by simpa [PyData.showable] using hs) fun t ht => Nat.le_trans (tupleText_mem_le ht) hz
    have na : a ∉ bs := not_mem_of_deeper r (by simp only [PyData.depth]; omega) g
    simp only [PyData.depth] at hu'
    exact call_repr_slot (T := "tuple") (idr := "tuple.__repr__") (by omega) ⟨o, h1, h2⟩ F.slot_tuple_repr
      (call_tuple_reprK h1 h2 h3 na k hg (fun b _ => Clear.nil b) hu' keep (fun h' u tk kk => ⟨_, _, rfl, hQ h' u tk kk⟩) hz)
  | dict h1 h2 h3 h4 h5 h6 =>
    simp only [PyData.shown] at hQ hz
    obtain ⟨bs, na, g, k⟩ := dict_parts (prog := prog) (w := w) h1 h2 h3 h4 h5 (by simpa [PyData.showable] using hs) hz
    simp only [PyData.depth] at hu'
    exact call_repr_slot (T := "dict") (idr := "dict.__repr__") (by omega) ⟨_, h1, h2⟩ F.slot_dict_repr
      (call_dict_reprK h1 h2 h3 h6 na k hg (fun b _ => Clear.nil b) hu' keep (fun h' u tk kk => ⟨_, _, rfl, hQ h' u tk kk⟩) hz)
end
end Vr
end PySem

set_option Elab.async false
set_option linter.all false
set_option maxRecDepth 100000
set_option maxHeartbeats 4000000
namespace L2
namespace Vx
open PySem PySem.Spec PyProof.Rows PySem.Vr
/-! ### values as data: trees of lists and tuples over flat things; a dict holds flat things alone; S: where they may stand -/
def FlatD : V → PyData → Prop
  | .non, d => d = .none
  | .bl b, d => d = .bool b
  | .int i, d => d = .int i
  | .str x, d => d = .str x
  | _, _ => False
def kD : Key → PyData
  | .inl i => .int i
  | .inr x => .str x
inductive FlatP : List (Key × V) → List (PyData × PyData) → Prop
  | nil : FlatP [] []
  | cons {k : Key} {v : V} {d : PyData} {r : List (Key × V)} {ds : List (PyData × PyData)} : FlatD v d → FlatP r ds → FlatP ((k, v) :: r) ((kD k, d) :: ds)
section
mutual
inductive Dt (H : Hp) (S : Addr → Prop) : V → PyData → Prop
  | flat {v d} : FlatD v d → Dt H S v d
  | lst {a xs ds} : H a = some (.lst xs) → S a → DtAll H S xs ds → Dt H S (.ref a) (.list ds)
  | tup {a xs ds} : H a = some (.tup xs) → S a → DtAll H S xs ds → Dt H S (.ref a) (.tuple ds)
  | dct {a kvs ds} : H a = some (.dK kvs) → S a → FlatP kvs ds → Dt H S (.ref a) (.dict ds)
inductive DtAll (H : Hp) (S : Addr → Prop) : List V → List PyData → Prop
  | nil : DtAll H S [] []
  | cons {v vs d ds} : Dt H S v d → DtAll H S vs ds → DtAll H S (v :: vs) (d :: ds)
end
mutual
theorem Dt.mono {H H' : Hp} {S S' : Addr → Prop} (k : ∀ a o, S a → H a = some o → H' a = some o) (ks : ∀ a o, S a → H a = some o → S' a) : ∀ {v : V} {d : PyData}, Dt H S v d → Dt H' S' v d
  | _, _, .flat h => .flat h
  | _, _, .lst h s r => .lst (k _ _ s h) (ks _ _ s h) (DtAll.mono k ks r)
  | _, _, .tup h s r => .tup (k _ _ s h) (ks _ _ s h) (DtAll.mono k ks r)
  | _, _, .dct h s r => .dct (k _ _ s h) (ks _ _ s h) r
theorem DtAll.mono {H H' : Hp} {S S' : Addr → Prop} (k : ∀ a o, S a → H a = some o → H' a = some o) (ks : ∀ a o, S a → H a = some o → S' a) : ∀ {vs : List V} {ds : List PyData}, DtAll H S vs ds → DtAll H' S' vs ds
  | _, _, .nil => .nil
  | _, _, .cons h r => .cons (Dt.mono k ks h) (DtAll.mono k ks r)
end
theorem DtAll.append {H : Hp} {S : Addr → Prop} : ∀ {vs ws : List V} {ds es : List PyData}, DtAll H S vs ds → DtAll H S ws es → DtAll H S (vs ++ ws) (ds ++ es)
  | _, _, _, _, .nil, r => r
  | _, _, _, _, .cons h t, r => .cons h (DtAll.append t r)
theorem FlatD.reads {h : Heap} {v : V} {u : Value} {d : PyData} (f : FlatD v d) (r : RelV v u) : Reads h u d [] := by
  cases v with
  | non => cases (show d = .none from f); cases (show u = Value.none from r); exact .none
  | bl b => cases (show d = .bool b from f); cases (show u = Value.bool b from r); exact .bool b
  | int i => cases (show d = .int i from f); obtain ⟨t, rfl⟩ := (show ∃ t, u = Value.int i t from r); exact .int i t
  | str x => cases (show d = .str x from f); obtain ⟨t, rfl⟩ := (show ∃ t, u = Value.str x t from r); exact .str x t
  | byt b => exact (show False from f).elim
  | flt b => exact (show False from f).elim
  | ref b => exact (show False from f).elim
  | ty b => exact (show False from f).elim
theorem readsAll_cons0 {h : Heap} {v : Value} {vs : List Value} {d : PyData} {ds : List PyData} (a : Reads h v d []) (b : ReadsAll h vs ds []) : ReadsAll h (v :: vs) (d :: ds) [] := .cons (as := []) (bs := []) a b
theorem flatP_reads {P : Program} {w : World} {h : Heap} : ∀ {kvs : List (Key × V)} {ds : List (PyData × PyData)} {vs : List (Key × Value)} {es : List DictEntry}, FlatP kvs ds → KV kvs vs → Pairs (mixKind P w) es vs →
    ReadsAll h (es.map (·.key)) (ds.map (·.1)) [] ∧ ReadsAll h (es.map (·.val)) (ds.map (·.2)) []
  | _, _, _, _, .nil, .nil, .nil => ⟨.nil, .nil⟩
  | _, _, _, _, .cons (k := k) f fr, .cons ⟨ek, rv⟩ rr, .cons (e := e0) hk hv hp => by
    obtain ⟨i1, i2⟩ := flatP_reads fr rr hp
    refine ⟨readsAll_cons0 ?_ i1, readsAll_cons0 ?_ i2⟩
    · have hk' : keyIs k e0.key = true := by rw [show k = _ from ek]; exact hk
      rcases keyIs_shape hk' with ⟨i, t, rfl, e⟩ | ⟨x, t, rfl, e⟩
      · show Reads h e0.key (.int i) []
        rw [e]
        exact .int i t
      · show Reads h e0.key (.str x) []
        rw [e]
        exact .str x t
    · exact f.reads (show RelV _ e0.val by rw [hv]; exact rv)
end
section
variable {X : Cx} {pins : List (Addr × Obj)} {σ : L2.St} {H : Hp} {s : Shared} {S : Addr → Prop}
mutual
theorem Dt.rd (I : Inv X pins σ H s) : ∀ {v : V} {d : PyData}, Dt H S v d → ∀ {u : Value}, RelV v u → RdX s.heap u d
  | _, _, .flat f, u, r => .leaf (f.reads r)
  | _, _, .lst (a := a) (xs := xs) h _ q, u, r => by
    cases (show u = Value.ref a from r)
    obtain ⟨_, its, n, rv, e⟩ := (show ObjOk X.prog X.w H s.heap a (.lst xs) from I.hok a _ h)
    exact .list e rfl rfl (DtAll.rd I q rv)
  | _, _, .tup (a := a) (xs := xs) h _ q, u, r => by
    cases (show u = Value.ref a from r)
    obtain ⟨_, its, rv, o, e, c, n, dt⟩ := (show ObjOk X.prog X.w H s.heap a (.tup xs) from I.hok a _ h)
    exact .tuple e c dt (DtAll.rd I q rv)
  | _, _, .dct (a := a) (kvs := kvs) h _ q, u, r => by
    cases (show u = Value.ref a from r)
    obtain ⟨_, hm, vs, rel, o, es, ep, e, hx, hd, _, hp, _⟩ := (show ObjOk X.prog X.w H s.heap a (.dK kvs) from I.hok a _ h)
    obtain ⟨i1, i2⟩ := flatP_reads (h := s.heap) q rel hp
    exact .dict e hx.1 hd i1 i2 hm
theorem DtAll.rd (I : Inv X pins σ H s) : ∀ {vs : List V} {ds : List PyData}, DtAll H S vs ds → ∀ {us : List Value}, Vals vs us → RdXAll s.heap us ds
  | _, _, .nil, _, .nil => .nil
  | _, _, .cons h q, _, .cons r rr => .cons (Dt.rd I h r) (DtAll.rd I q rr)
end
/-- a datum that repr can show -/
structure Shows (d : PyData) : Prop where
  sh : d.showable = true
  len : d.shown.length ≤ 1000000
  dep : d.depth ≤ 60
def rRep (S : Addr → Prop) : List V → Hp → VK → Prop := fun xs H Q => ∃ v d, xs = [v] ∧ Dt H S v d ∧ Shows d ∧ Q (.str d.shown) H
theorem call_rep (hg : X.A.guards = some []) (hu : X.A.units + 100 < cLine) (S : Addr → Prop) : CallR X (.builtin "repr") (rRep S) := by
  intro pins s σ H xs us Q I r h
  obtain ⟨v, d, rfl, hd, z, q⟩ := h
  cases r with
  | cons rv rn =>
    cases rn
    have hl : d.shown.length ≤ sizeLine := Nat.le_trans z.len (by rw [sizeLine_eq]; decide)
    have hdp := z.dep
    exact repr_call (hd.rd I rv) z.sh hl hg (by omega) fun h' u tk k => ⟨.str d.shown, H, I.kept (t' := tk) k, ⟨_, rfl⟩, q⟩
end
end Vx
end L2

set_option Elab.async false
set_option linter.all false
set_option maxRecDepth 100000
set_option maxHeartbeats 4000000
namespace Vf
open PySem PySem.Spec PyProof.Rows L2
/-! ### the text by places -/
def top (i : Nat) : Stmt := PySem.Challenge.pw_piecesseen_k66_whole_one_letter_put_othe.main.body.getD i (.Pass ⟨0, 0, 0, 0⟩)
abbrev sDeck : Stmt := top 22
abbrev sDraw : Stmt := top 23
abbrev sPick : Stmt := top 24
/-! ### the deck, a dict: what holds of it between draws -/
theorem same_new {H : Hp} {p : Addr} (h : H p = none) (o : HO) : Same H (upd H p o) := fun b u q => by rw [upd_ne (ne_of_none q h)]; exact q
abbrev kI : Key := Sum.inr "items"
abbrev kT : Key := Sum.inr "total"
abbrev kD : Key := Sum.inr "draws"
theorem kIT : ¬ kI = kT := by decide
theorem kID : ¬ kI = kD := by decide
theorem kTI : ¬ kT = kI := by decide
theorem kTD : ¬ kT = kD := by decide
theorem kDI : ¬ kD = kI := by decide
theorem kDT : ¬ kD = kT := by decide
abbrev deckL (g : Addr) (m n : Int) : List (Key × V) := [(kI, .ref g), (kT, .int m), (kD, .int n)]
theorem deck_items {g : Addr} {m n : Int} : valV (deckL g m n) kI = some (.ref g) := valV_pos (p := (kI, V.ref g)) rfl
theorem deck_total {g : Addr} {m n : Int} : valV (deckL g m n) kT = some (.int m) := (valV_neg (p := (kI, V.ref g)) kIT).trans (valV_pos (p := (kT, V.int m)) rfl)
theorem deck_draws {g : Addr} {m n : Int} : valV (deckL g m n) kD = some (.int n) := ((valV_neg (p := (kI, V.ref g)) kID).trans (valV_neg (p := (kT, V.int m)) kTD)).trans (valV_pos (p := (kD, V.int n)) rfl)
theorem get_items {H : Hp} {d g : Addr} {m n : Int} (e : H d = some (.dK (deckL g m n))) : DGet H d (.str "items") (some (.ref g)) := by
  have z := DGet.k (k := kI) e
  rw [deck_items] at z
  exact z
theorem get_total {H : Hp} {d g : Addr} {m n : Int} (e : H d = some (.dK (deckL g m n))) : DGet H d (.str "total") (some (.int m)) := by
  have z := DGet.k (k := kT) e
  rw [deck_total] at z
  exact z
theorem get_draws {H : Hp} {d g : Addr} {m n : Int} (e : H d = some (.dK (deckL g m n))) : DGet H d (.str "draws") (some (.int n)) := by
  have z := DGet.k (k := kD) e
  rw [deck_draws] at z
  exact z
theorem deck_put {g : Addr} {m n j : Int} : putK (deckL g m n) kD (.int j) = deckL g m j := by
  have a : ((deckL g m n).any fun kv => decide (kv.1 = kD)) = true := by rw [valV_any, deck_draws]; rfl
  unfold putK
  rw [if_pos a]
  show [(if kI = kD then (kI, V.int j) else (kI, V.ref g)), (if kT = kD then (kT, V.int j) else (kT, V.int m)), (if kD = kD then (kD, V.int j) else (kD, V.int n))] = _
  rw [if_neg kID, if_neg kTD, if_pos rfl]
theorem deck_merge {g : Addr} {m n : Int} : mergeK [] (deckL g m n) = deckL g m n := by
  show putK (putK (putK [] kI (.ref g)) kT (.int m)) kD (.int n) = _
  rw [putK_new (kvs := []) (.ref g) valV_nil]
  rw [putK_new (kvs := [] ++ [(kI, V.ref g)]) (.int m) (valV_neg (p := (kI, V.ref g)) kIT)]
  rw [putK_new (kvs := [] ++ [(kI, V.ref g)] ++ [(kT, V.int m)]) (.int n) ((valV_neg (p := (kI, V.ref g)) kID).trans (valV_neg (p := (kT, V.int m)) kTD))]
  rfl
/-- a deck at d, its items at g, at most c draws so far -/
def DeckAt (c : Nat) (H : Hp) (d g : Addr) : Prop := ∃ (ns : List Int) (m n : Int), H d = some (.dK (deckL g m n)) ∧ H g = some (.lst (ns.map V.int)) ∧ ns.length ≤ 63 ∧ d ≠ g ∧ 0 ≤ n ∧ n ≤ c
/-- all that was tracked stands, but for d and g -/
def Keeps (d g : Addr) (H H' : Hp) : Prop := ∀ b o, b ≠ d → b ≠ g → H b = some o → H' b = some o
theorem Keeps.refl (d g : Addr) (H : Hp) : Keeps d g H H := fun _ _ _ _ h => h
theorem Keeps.trans {d g : Addr} {H H1 H2 : Hp} (a : Keeps d g H H1) (b : Keeps d g H1 H2) : Keeps d g H H2 := fun c o n1 n2 h => b c o n1 n2 (a c o n1 n2 h)
theorem Keeps.of {d g : Addr} {H H' : Hp} (s : Same H H') : Keeps d g H H' := fun b o _ _ h => s b o h
theorem Keeps.upd_d {d g : Addr} {H H' : Hp} (k : Keeps d g H H') (o : HO) : Keeps d g H (upd H' d o) := fun b u n1 n2 h => by rw [upd_ne n1]; exact k b u n1 n2 h
theorem Keeps.upd_g {d g : Addr} {H H' : Hp} (k : Keeps d g H H') (o : HO) : Keeps d g H (upd H' g o) := fun b u n1 n2 h => by rw [upd_ne n2]; exact k b u n1 n2 h
theorem DeckAt.same {c : Nat} {H H' : Hp} {d g : Addr} (h : DeckAt c H d g) (s : Same H H') : DeckAt c H' d g := by
  obtain ⟨ns, m, n, h1, h2, h3⟩ := h
  exact ⟨ns, m, n, s _ _ h1, s _ _ h2, h3⟩
theorem DeckAt.le {c c' : Nat} {H : Hp} {d g : Addr} (h : DeckAt c H d g) (e : c ≤ c') : DeckAt c' H d g := by
  obtain ⟨ns, m, n, h1, h2, h3, h4, h5, h6⟩ := h
  exact ⟨ns, m, n, h1, h2, h3, h4, h5, by omega⟩
theorem DeckAt.other {c : Nat} {H : Hp} {d g p : Addr} (h : DeckAt c H d g) (n1 : p ≠ d) (n2 : p ≠ g) (o : HO) : DeckAt c (upd H p o) d g := by
  obtain ⟨ns, m, n, h1, h2, h3⟩ := h
  exact ⟨ns, m, n, by rw [upd_ne n1.symm]; exact h1, by rw [upd_ne n2.symm]; exact h2, h3⟩
theorem DeckAt.dn {c : Nat} {H : Hp} {d g p : Addr} (h : DeckAt c H d g) (hp : H p = none) : p ≠ d ∧ p ≠ g := by
  obtain ⟨ns, m, n, h1, h2, _⟩ := h
  exact ⟨(ne_of_none h1 hp).symm, (ne_of_none h2 hp).symm⟩
theorem Keeps.free {d g t : Addr} {H H' : Hp} (k : Keeps d g H H') (n1 : t ≠ d) (n2 : t ≠ g) (e : H' t = none) : H t = none := by
  cases z : H t with
  | none => rfl
  | some u =>
    have y := k t u n1 n2 z
    rw [e] at y
    exact nomatch y
theorem Keeps.seq {K : PySem.W.Frag} {d g a : Addr} {H H' : Hp} {xs : List V} (k : Keeps d g H H') (n1 : a ≠ d) (n2 : a ≠ g) (h : SqL K H a xs) : SqL K H' a xs := by
  rcases h with (h | ⟨o, h⟩) | h
  · exact .inl (.inl (k _ _ n1 n2 h))
  · exact .inl (.inr ⟨o, k _ _ n1 n2 h⟩)
  · exact .inr h
/-- so many draws and no more -/
def most : Nat := 1000000000000
/-! ### promises -/
def spDeck (K : PySem.W.Frag) : Sp := fun vs H Q _ => ∃ (a : Addr) (ns : List Int), vs = [.ref a] ∧ SqL K H a (ns.map V.int) ∧ ns.length ≤ 63 ∧
  ∀ (d g : Addr) (H' : Hp), Same H H' → H d = none → H g = none → DeckAt 0 H' d g → Q (.ref d) H'
def spDraw : Sp := fun vs H Q _ => ∃ (d g : Addr) (b : Int) (c : Nat), vs = [.ref d, .int b] ∧ 0 < b ∧ b < 1073741824 ∧ DeckAt c H d g ∧ c < most ∧
  ∀ (r : Int) (H' : Hp), 0 ≤ r → r < b → DeckAt (c + 1) H' d g → Keeps d g H H' → Q (.int r) H'
def spPick (K : PySem.W.Frag) : Sp := fun vs H Q _ => ∃ (d g p : Addr) (xs : List V) (c : Nat), vs = [.ref d, .ref p] ∧ (SqL K H p xs) ∧ p ≠ d ∧ p ≠ g ∧ xs ≠ [] ∧ xs.length < 1000000 ∧ DeckAt c H d g ∧ c < most ∧
  ∀ (x : V) (H' : Hp), x ∈ xs → DeckAt (c + 1) H' d g → Keeps d g H H' → Q x H'
def spPickS : Sp := fun vs H Q _ => ∃ (d g : Addr) (z : Str) (c : Nat), vs = [.ref d, .str z] ∧ 0 < z.length ∧ z.length < 1000000 ∧ DeckAt c H d g ∧ c < most ∧
  ∀ (x : Nat) (H' : Hp), x ∈ z.cps.toList → DeckAt (c + 1) H' d g → Keeps d g H H' → Q (.str ⟨#[x]⟩) H'
/-- what the top leaves of the names that these defs use -/
structure TxtD (mg : Str → Option Value) (fW : Addr) : Prop where
  list : mg "list" = none
  int : mg "int" = none
  len : mg "len" = none
  draw : mg "_law_draw" = some (.ref fW)
section
variable {P : Program} {w : World} {K : PySem.W.Frag} {mg : Str → Option Value} {base : Heap}
theorem scDeck : FnScope ["_law_script", "_law_items", "_law_total", "_law_item"] ["_law_script"] (defScope sDeck) := ⟨rfl, rfl, rfl, by decide +kernel, rfl, by decide +kernel, by decide +kernel⟩
theorem int_at {ns : List Int} {i : Nat} {y : V} (h : (ns.map V.int)[i]? = some y) : ∃ z : Int, ns[i]? = some z ∧ y = .int z := by
  rw [List.getElem?_map] at h
  cases e : ns[i]? with
  | none => rw [e] at h; cases h
  | some z => rw [e] at h; exact ⟨z, rfl, (Option.some.inj h).symm⟩
theorem cut63 {xs : List V} (h : xs.length ≤ 63) : cutV xs none (some 63) = xs := by
  unfold cutV
  have e1 : HT.sIx xs.length 0 none = 0 := rfl
  have e2 : HT.sIx xs.length xs.length (some 63) = min 63 xs.length := HT.sIx_nat _ _ 63
  rw [e1, e2, List.drop_zero]
  exact List.take_of_length_le (by omega)
theorem ok_deck {f : Addr} {fd : FuncData} {fW : Addr} (F : Fun K "_law_deck" "_law_deck" sDeck f fd) (T : TxtD mg fW) : FnOk P w K mg base CX0 1 f fd ["_law_script"] (spDeck K) := by
  refine F.ok scDeck (fun vs H Q E h => ?_) (fun cdv A outer s H vs Q E hr h => ?_)
  · obtain ⟨a, ns, rfl, _⟩ := h
    rfl
  obtain ⟨a, ns, rfl, hS, h63, k⟩ := h
  refine ⟨_, pss_cons (ps_par (i := 1) (j := 2) rfl scDeck.nd rfl rfl (by decide) rfl rfl (pa_cons (pe_callTy call_list_of (by rfl) T.list (by decide +kernel) (pa_cons (pe_slice sl_list (pv 0) po_none (po_some pe_int)) pa_nil)) (pa_cons pe_int pa_nil)) (by rfl))
    (pss_cons (ps_for PassesOwn.never rfl (pi_list (pv 1)) (pg_name (i := 3) scDeck.nd rfl (Or.inl rfl))
      (pss_one (ps_set (i := 2) scDeck.nd rfl (Or.inl rfl) (pe_op op_mod (pe_callTy call_int1 (by rfl) T.int (by decide +kernel) (pa_cons (pe_op op_add (pe_op op_add (pe_op op_mul (pv 2) pe_int) (pe_op op_mod (pe_callTy call_int1 (by rfl) T.int (by decide +kernel) (pa_cons (pv 3) pa_nil)) pe_int)) pe_int) pa_nil)) pe_int))))
    (pss_one (ps_ret (pe_disp (pps_cons pe_str (pe_revL (pv 1)) (pps_cons pe_str (pv 2) (pps_cons pe_str pe_int pps_nil))) (by rfl) (by rfl) (fun z => by cases z) (by decide))))), ?_⟩
  have hlm : (ns.map V.int).length = ns.length := List.length_map _
  refine ⟨_, rfl, _, rfl, a, _, rfl, hS, fun p hp => ?_⟩
  rw [cut63 (by rw [hlm]; exact h63)]
  refine ⟨p, _, rfl, .inl (SqL.of upd_same), fun l hl => ?_⟩
  refine ⟨_, _, rfl, ?_⟩
  have s1 : Same H (upd (upd H p (.lst (ns.map V.int))) l (.lst (ns.map V.int))) := (same_new hp _).trans (same_new hl _)
  have hl0 : H l = none := (same_new hp _).free hl
  refine ⟨_, rfl, l, rfl, ⟨_, SqL.of upd_same⟩, for_list (K := K) (a := l) (xs := ns.map V.int) (fun i σ H' => ∃ (m : Int) (v : Option V), σ = [some (.ref a), some (.ref l), some (.int m), v] ∧ -4294967296 < m ∧ m < 4294967296 ∧ H' = upd (upd H p (.lst (ns.map V.int))) l (.lst (ns.map V.int)))
    ⟨_, none, rfl, by decide, by decide, rfl⟩ (fun i σ H' _ ⟨_, _, _, _, _, e⟩ => e ▸ SqL.of upd_same) ?_ ?_⟩
  · rintro i y σ H' hi ⟨m, v, rfl, hm0, hm1, rfl⟩
    obtain ⟨z, _, rfl⟩ := int_at hi
    refine ⟨_, rfl, _, _, rfl, rfl, .inr ⟨by decide, by decide⟩, _, rfl, .inl ⟨_, rfl, _, _, rfl, rfl, (by show (0 : Int) < _; decide), _, _, rfl, rfl, _, _, rfl, rfl, .inl ⟨_, rfl, _, _, rfl, rfl, (by show (0 : Int) < _; decide), ?_⟩⟩⟩
    refine ⟨_, some (.int z), rfl, ?_, ?_, rfl⟩
    · exact Int.lt_of_lt_of_le (by decide) (Int.emod_nonneg _ (by decide))
    · exact Int.lt_trans (Int.emod_lt_of_pos _ (by decide)) (by decide)
  · rintro σ H' ⟨m, v, rfl, hm0, hm1, rfl⟩
    intro d hd
    have s2 := s1.trans (same_new hd (.dK []))
    have e1 := same_new hd (.dK []) _ _ (upd_same (H := upd H p (.lst (ns.map V.int))) (a := l) (o := .lst (ns.map V.int)))
    refine ⟨_, rfl, l, _, rfl, SqL.of e1, fun g hg => ?_⟩
    have gd : g ≠ d := (ne_of_none upd_same hg).symm
    refine ⟨_, rfl, ?_⟩
    refine ⟨by rw [upd_ne gd.symm]; exact upd_same, deckL g m 0, rfl, (by show 3 ≤ 15; decide), ?_⟩
    rw [deck_merge]
    refine k d g _ (fun b o e => ?_) (s1.free hd) (s2.free hg) ⟨ns.reverse, m, 0, upd_same, ?_, by rw [List.length_reverse]; exact h63, gd.symm, Int.le_refl _, Int.le_refl _⟩
    · rw [upd_ne (ne_of_none e (s1.free hd))]
      exact (same_new hg _) _ _ (s2 _ _ e)
    · rw [upd_ne gd, upd_same, List.map_reverse]
/-! ### a draw -/
theorem scDraw : FnScope ["_law_deck_here", "_law_span", "_law_mark", "_law_item", "_law_mixed"] ["_law_deck_here", "_law_span"] (defScope sDraw) := ⟨rfl, rfl, rfl, by decide +kernel, rfl, by decide +kernel, by decide +kernel⟩
theorem canLay_ints : ∀ ns : List Int, PyData.canLayAll0 (ns.map .int) = true
  | [] => rfl
  | n :: r => by simp only [List.map, PyData.canLayAll0, PyData.canLay0, canLay_ints r, Bool.and_self]
theorem depth_ints : ∀ ns : List Int, PyData.depthAll (ns.map .int) = 0
  | [] => rfl
  | n :: r => by simp only [List.map, PyData.depthAll, PyData.depth, depth_ints r, Nat.max_self]
theorem shaped_ints (ns : List Int) : SeqAt.shaped (.list (ns.map .int)) = true := by
  simp [SeqAt.shaped, PyData.canLay0, canLay_ints, PyData.depth, depth_ints]
theorem eqv_nil (ns : List Int) : PyData.eqv (.list (ns.map .int)) (.list []) = ns.isEmpty := by
  cases ns <;> simp [PyData.eqv, PyData.eqvAll]
theorem dpAll_ints {H : Hp} : ∀ ns : List Int, DpAll K H (ns.map V.int) (ns.map .int)
  | [] => .nil
  | n :: r => .cons (.int n) (dpAll_ints r)
theorem dp_ints {H : Hp} {a : Addr} {ns : List Int} (h : SqL K H a (ns.map V.int)) : Dp K H (.ref a) (.list (ns.map .int)) := .lst h (dpAll_ints ns)
theorem ok_draw {f : Addr} {fd : FuncData} {fW : Addr} (F : Fun K "_law_draw" "_law_draw" sDraw f fd) (T : TxtD mg fW) : FnOk P w K mg base CX0 1 f fd ["_law_deck_here", "_law_span"] spDraw := by
  refine F.ok scDraw (fun vs H Q E h => ?_) (fun cdv A outer s H vs Q E hr h => ?_)
  · obtain ⟨d, g, b, c, rfl, _⟩ := h
    rfl
  obtain ⟨d, g, b, c, rfl, hb0, hb1, ⟨ns, m, n, h1, h2, h63, hdg, hn0, hn1⟩, hc, k⟩ := h
  unfold most at hc
  refine ⟨_, pss_cons (ps_dput (hu_of hr) (pv 0) pe_str (pe_op op_add (pe_dget (hu_of hr) (pv 0) pe_str (fun _ _ => rfl)) pe_int) rfl)
    (pss_cons (ps_par (i := 2) (j := 3) rfl scDraw.nd rfl rfl (by decide) rfl rfl (pa_cons (pe_dget (hu_of hr) (pv 0) pe_str (fun _ _ => rfl)) (pa_cons (pe_dget (hu_of hr) (pv 0) pe_str (fun _ _ => rfl)) pa_nil)) (by rfl))
    (C8.pss_cut (ps_if (pt_cmpR (op_neD hr.units) (pe_dget (hu_of hr) (pv 0) pe_str (fun _ _ => rfl)) (pe_lst pa_nil) (nomark _))
        (pss_cons (ps_set (i := 3) scDraw.nd rfl (Or.inl rfl) (pe_bm0 PySem.F.plainAttrs_list PySem.F.slot_list_pop PySem.F.type_list_pop mt_pop (pe_dget (hu_of hr) (pv 0) pe_str (fun _ _ => rfl))))
        (pss_cons (ps_if (pt_cmpR op_ge (pv 3) (pe_op op_pow pe_int pe_int) (nomark _))
            (pss_cons (ps_expr (pe_bm PySem.F.plainAttrs_list PySem.F.slot_list_append PySem.F.type_list_append mt_append (pe_dget (hu_of hr) (pv 0) pe_str (fun _ _ => rfl)) (pa_cons (pe_op op_fdivN (pv 3) (pv 1)) pa_nil)))
            (pss_one (ps_ret (pe_op op_modN (pe_callTy call_int1 (by rfl) T.int (by decide +kernel) (pa_cons (pv 3) pa_nil)) (pv 1))))) pss_nil)
        (pss_one (ps_set (i := 3) scDraw.nd rfl (Or.inl rfl) (pe_op op_add (pv 3) (pe_dget (hu_of hr) (pv 0) pe_str (fun _ _ => rfl))))))) pss_nil)
    (pss_cons (ps_set (i := 4) scDraw.nd rfl (Or.inl rfl) (pe_op op_mul (pe_callTy call_int1 (by rfl) T.int (by decide +kernel) (pa_cons (pe_op op_add (pe_op op_add (pe_op op_mod (pe_callTy call_int1 (by rfl) T.int (by decide +kernel) (pa_cons (pv 3) pa_nil)) pe_int) (pe_op op_mul (pe_op op_mul pe_int (pv 2)) (pv 2))) pe_int) pa_nil)) pe_int))
    (pss_cons (ps_set (i := 4) scDraw.nd rfl (Or.inl rfl) (pe_op op_mod (pe_callTy call_int1 (by rfl) T.int (by decide +kernel) (pa_cons (pv 4) pa_nil)) pe_int))
    (pss_cons (ps_set (i := 4) scDraw.nd rfl (Or.inl rfl) (pe_op op_mod (pe_callTy call_int1 (by rfl) T.int (by decide +kernel) (pa_cons (pe_op op_add (pe_op op_add (pe_op op_mul (pv 4) (pv 4)) (pe_op op_mul pe_int (pv 2))) pe_int) pa_nil)) pe_int))
    (pss_one (ps_ret (pe_op op_modN (pe_op op_fdiv (pe_op op_mod (pe_callTy call_int1 (by rfl) T.int (by decide +kernel) (pa_cons (pe_op op_mul (pv 4) pe_int) pa_nil)) pe_int) pe_int) (pv 1))))))))), ?_⟩
  -- one draw more
  refine ⟨_, rfl, d, _, rfl, get_draws h1, _, _, rfl, rfl, _, rfl, d, _, rfl, DPut.k (k := kD) h1 (by show 3 < sizeLine; decide), ?_⟩
  rw [deck_put]
  have hgd : g ≠ d := hdg.symm
  have e1 : upd H d (.dK (deckL g m (n + 1))) d = some (.dK (deckL g m (n + 1))) := upd_same
  have e2 : upd H d (.dK (deckL g m (n + 1))) g = some (.lst (ns.map V.int)) := by rw [upd_ne hgd]; exact h2
  have kp : Keeps d g H (upd H d (.dK (deckL g m (n + 1)))) := (Keeps.refl d g H).upd_d _
  generalize upd H d (.dK (deckL g m (n + 1))) = H1 at e1 e2 kp ⊢
  refine ⟨_, rfl, d, _, rfl, get_draws e1, _, rfl, d, .int m, rfl, get_total e1, _, _, rfl, ?_⟩
  -- what stands behind the if
  refine ⟨fun σ H' => ∃ (x : Int) (v : Option V), σ = [some (.ref d), some (.int b), some (.int (n + 1)), some (.int x), v] ∧ DeckAt (c + 1) H' d g ∧ Keeps d g H H', ?_, ?_⟩
  · refine ⟨_, rfl, d, .ref g, rfl, get_items e1, Nat.zero_le _, fun p hp => ?_⟩
    have hpd : p ≠ d := (ne_of_none e1 hp).symm
    have hpg : p ≠ g := (ne_of_none e2 hp).symm
    have e3 : upd H1 p (.lst []) d = some (.dK (deckL g m (n + 1))) := by rw [upd_ne hpd.symm]; exact e1
    have e4 : upd H1 p (.lst []) g = some (.lst (ns.map V.int)) := by rw [upd_ne hpg.symm]; exact e2
    have kp1 : Keeps d g H (upd H1 p (.lst [])) := kp.trans (.of (same_new hp _))
    refine ⟨_, _, dp_ints (SqL.of e4), .lst (SqL.of upd_same) .nil, shaped_ints ns, rfl, _, rfl, ?_⟩
    rw [eqv_nil]
    generalize upd H1 p (.lst []) = H2 at e3 e4 kp1
    rcases List.eq_nil_or_concat ns with rfl | ⟨ms, z, rfl⟩
    · rw [if_neg (by simp)]
      exact ⟨_, none, rfl, ⟨[], m, n + 1, e3, e4, Nat.zero_le _, hdg, by omega, by omega⟩, kp1⟩
    · rw [if_pos (by simp)]
      rw [List.concat_eq_append, List.map_append] at e4
      rw [List.concat_eq_append] at h63
      have e4' : H2 g = some (.lst (ms.map V.int ++ [V.int z])) := e4
      have hlast : (ms.map V.int ++ [V.int z])[(ms.map V.int ++ [V.int z]).length - 1]? = some (V.int z) := by simp
      have hms : ms.length + 1 ≤ 63 := by rw [List.length_append, List.length_singleton] at h63; exact h63
      refine ⟨_, rfl, d, .ref g, rfl, get_items e3, .inl ⟨rfl, _, SqL.of e4'⟩, g, _, _, rfl, rfl, e4', hlast, ?_⟩
      have e5 : upd H2 g (.lst (ms.map V.int ++ [V.int z]).dropLast) d = some (.dK (deckL g m (n + 1))) := by rw [upd_ne hdg]; exact e3
      have e6 : upd H2 g (.lst (ms.map V.int ++ [V.int z]).dropLast) g = some (.lst (ms.map V.int)) := by rw [upd_same, List.dropLast_concat]
      have kp3 : Keeps d g H (upd H2 g (.lst (ms.map V.int ++ [V.int z]).dropLast)) := kp1.upd_g _
      generalize upd H2 g (.lst (ms.map V.int ++ [V.int z]).dropLast) = H3 at e5 e6 kp3
      refine ⟨_, rfl, _, _, rfl, rfl, ⟨by decide, by decide, by decide⟩, _, _, rfl, rfl, _, rfl, ?_⟩
      refine ite2 (fun _ => ?_) (fun _ => ?_)
      · refine ⟨_, rfl, d, .ref g, rfl, get_items e5, .inl ⟨rfl, _, SqL.of e6⟩, _, rfl, _, rfl, _, _, rfl, rfl, ⟨by omega, by omega⟩, g, _, _, rfl, rfl, e6, ?_, ?_⟩
        · rw [List.length_map]
          exact small1000 (by omega)
        · refine ⟨_, rfl, .inl ⟨_, rfl, _, rfl, _, _, rfl, rfl, (by show b ≠ 0; omega), ?_⟩⟩
          refine k _ _ (Int.fmod_nonneg_of_pos _ hb0) (Int.fmod_lt_of_pos _ hb0) ⟨ms ++ [z.fdiv b], m, n + 1, ?_, ?_, ?_, hdg, by omega, by omega⟩ (kp3.upd_g _)
          · rw [upd_ne hdg]; exact e5
          · rw [upd_same, List.map_append]; rfl
          · rw [List.length_append, List.length_singleton]; exact hms
      · refine ⟨_, rfl, _, rfl, d, .int m, rfl, get_total e5, _, _, rfl, rfl, ?_⟩
        exact ⟨_, _, rfl, ⟨ms, m, n + 1, e5, e6, by omega, hdg, by omega, by omega⟩, kp3⟩
  · rintro σ H2 ⟨x, v, rfl, hD2, kp2⟩
    have hm0 : -18446744073709551616 < n + 1 := by omega
    have hm1 : n + 1 < 18446744073709551616 := by omega
    refine ⟨_, rfl, .inl ⟨_, rfl, _, _, rfl, rfl, (by show (0 : Int) < _; decide), _, rfl, _, _, rfl, rfl, .inl ⟨by decide, by decide⟩, _, rfl, _, _, rfl, rfl, .inr ⟨hm0, hm1⟩, _, _, rfl, rfl, _, _, rfl, rfl, .inl ⟨_, rfl, _, _, rfl, rfl, .inr ⟨by decide, by decide⟩, ?_⟩⟩⟩
    refine ⟨_, rfl, .inl ⟨_, rfl, _, _, rfl, rfl, (by show (0 : Int) < _; decide), ?_⟩⟩
    refine ⟨_, rfl, _, rfl, _, _, rfl, rfl, .inl ⟨?b1, ?b2⟩, ?_⟩
    case b1 => exact Int.lt_of_lt_of_le (by decide) (Int.emod_nonneg _ (by decide))
    case b2 => exact Int.lt_trans (Int.emod_lt_of_pos _ (by decide)) (by decide)
    refine ⟨_, rfl, _, _, rfl, rfl, .inl ⟨by decide, by decide⟩, _, _, rfl, rfl, _, _, rfl, rfl, .inl ⟨_, rfl, _, _, rfl, rfl, (by show (0 : Int) < _; decide), ?_⟩⟩
    refine ⟨_, rfl, _, _, rfl, rfl, .inr ⟨by decide, by decide⟩, .inl ⟨_, rfl, _, _, rfl, rfl, (by show (0 : Int) < _; decide), _, _, rfl, rfl, ⟨by decide, by decide⟩, _, rfl, _, _, rfl, rfl, (by show b ≠ 0; omega), ?_⟩⟩
    exact k _ H2 (Int.fmod_nonneg_of_pos _ hb0) (Int.fmod_lt_of_pos _ hb0) hD2 kp2
/-! ### a pick -/
theorem scPick : FnScope ["_law_deck_here", "_law_some"] ["_law_deck_here", "_law_some"] (defScope sPick) := ⟨rfl, rfl, rfl, by decide +kernel, rfl, by decide +kernel, by decide +kernel⟩
theorem ok_pick {f : Addr} {fd : FuncData} {fW : Addr} {fdW : FuncData} (F : Fun K "_law_pick" "_law_pick" sPick f fd) (FW : Fun K "_law_draw" "_law_draw" sDraw fW fdW) (bW : Binds K fdW ["_law_deck_here", "_law_span"] []) (T : TxtD mg fW) : FnOk P w K mg base CX0 2 f fd ["_law_deck_here", "_law_some"] (spPick K) := by
  have GW : FnOk P w K mg base CX0 1 fW fdW ["_law_deck_here", "_law_span"] spDraw := ok_draw FW T
  refine F.ok scPick (fun vs H Q E h => ?_) (fun cdv A outer s H vs Q E hr h => ?_)
  · obtain ⟨d, g, p, xs, c, rfl, _⟩ := h
    rfl
  obtain ⟨d, g, p, xs, c, rfl, hS, n1, n2, hne, hlen, hD, hc, k⟩ := h
  refine ⟨_, pss_one (ps_ret (pe_ix ix_list (pv 1) (pe_call GW hr rfl T.draw FW.kp bW .nil pass0 (pa_cons (pv 0) (pa_cons (pe_callB call_len_seq (by rfl) T.len PySem.boot_len (pa_cons (pv 1) pa_nil)) pa_nil))) (fun _ _ => rfl))), ?_⟩
  have hpos : 0 < xs.length := List.length_pos_iff.mpr hne
  refine ⟨_, rfl, _, rfl, _, rfl, p, _, rfl, .inl hS, d, g, _, c, rfl, by omega, by omega, hD, hc, fun r H' h0 h1 hD' kp => ?_⟩
  have hr : r.toNat < xs.length := by omega
  have er : r = ((r.toNat : Nat) : Int) := by omega
  have hx : atI xs r = some xs[r.toNat] := at_of er (List.getElem?_eq_getElem hr)
  exact ⟨p, _, r, _, rfl, rfl, kp.seq n1 n2 hS, hx, k _ H' (List.getElem_mem hr) hD' kp⟩
theorem ok_pickS {f : Addr} {fd : FuncData} {fW : Addr} {fdW : FuncData} (F : Fun K "_law_pick" "_law_pick" sPick f fd) (FW : Fun K "_law_draw" "_law_draw" sDraw fW fdW) (bW : Binds K fdW ["_law_deck_here", "_law_span"] []) (T : TxtD mg fW) : FnOk P w K mg base CX0 2 f fd ["_law_deck_here", "_law_some"] spPickS := by
  have GW : FnOk P w K mg base CX0 1 fW fdW ["_law_deck_here", "_law_span"] spDraw := ok_draw FW T
  refine F.ok scPick (fun vs H Q E h => ?_) (fun cdv A outer s H vs Q E hr h => ?_)
  · obtain ⟨d, g, z, c, rfl, _⟩ := h
    rfl
  obtain ⟨d, g, z, c, rfl, hpos, hlen, hD, hc, k⟩ := h
  refine ⟨_, pss_one (ps_ret (pe_ix ix_str (pv 1) (pe_call GW hr rfl T.draw FW.kp bW .nil pass0 (pa_cons (pv 0) (pa_cons (pe_callB call_len_str (by rfl) T.len PySem.boot_len (pa_cons (pv 1) pa_nil)) pa_nil))) (fun _ _ => rfl))), ?_⟩
  have hz : z.length ≤ sizeLine := Nat.le_trans (Nat.le_of_lt hlen) (by decide)
  refine ⟨_, rfl, _, rfl, _, rfl, _, rfl, hz, d, g, _, c, rfl, by omega, by omega, hD, hc, fun r H' h0 h1 hD' kp => ?_⟩
  have hl : z.cps.toList.length = z.length := by rw [Array.length_toList]; rfl
  have hr : r.toNat < z.cps.toList.length := by omega
  have er : r = ((r.toNat : Nat) : Int) := by omega
  have hx : atI z.cps.toList r = some z.cps.toList[r.toNat] := by
    rw [show atI z.cps.toList r = atI z.cps.toList ((r.toNat : Nat) : Int) from congrArg _ er]
    exact atI_nat (List.getElem?_eq_getElem hr)
  exact ⟨z, r, _, rfl, rfl, hz, hx, k _ H' (List.getElem_mem hr) hD' kp⟩
end
end Vf

set_option linter.all false
namespace Vm
/-! ### words as lists of codes; the pieces of a word -/
abbrev Wd := List Nat
theorem lt_irr (x : Wd) : ¬ x < x := List.lt_irrefl x
theorem lt_tr {x y z : Wd} (a : x < y) (b : y < z) : x < z := List.lt_trans a b
theorem lt_as {x y : Wd} (a : x < y) : ¬ y < x := fun b => lt_irr x (lt_tr a b)
theorem lt_tri {x y : Wd} (a : ¬ x < y) (b : ¬ y < x) : x = y := List.le_antisymm (List.not_lt.mp b) (List.not_lt.mp a)
theorem le_tr {x y z : Wd} (a : ¬ y < x) (b : ¬ z < y) : ¬ z < x := List.not_lt.mpr (List.le_trans (List.not_lt.mp a) (List.not_lt.mp b))
/-- p into an ascending list -/
def ins (p : Wd) : List Wd → List Wd
  | [] => [p]
  | q :: r => if p < q then p :: q :: r else if q < p then q :: ins p r else q :: r
def asc : List Wd → List Wd
  | [] => []
  | p :: r => ins p (asc r)
abbrev Up (l : List Wd) : Prop := l.Pairwise (· < ·)
theorem mem_ins {p x : Wd} : ∀ {l : List Wd}, x ∈ ins p l ↔ x = p ∨ x ∈ l
  | [] => by simp [ins]
  | q :: r => by
    unfold ins
    by_cases h1 : p < q
    · simp [h1]
    · by_cases h2 : q < p
      · simp only [h1, h2, if_false, if_true, List.mem_cons, mem_ins (l := r)]
        constructor
        · rintro (a | a | a) <;> simp [a]
        · rintro (a | a | a) <;> simp [a]
      · have e := lt_tri h1 h2
        subst e
        simp [h1]
theorem up_ins {p : Wd} : ∀ {l : List Wd}, Up l → Up (ins p l)
  | [], _ => List.pairwise_singleton _ _
  | q :: r, h => by
    obtain ⟨a, b⟩ := List.pairwise_cons.mp h
    unfold ins
    by_cases h1 : p < q
    · rw [if_pos h1]
      exact List.pairwise_cons.mpr ⟨fun y hy => (List.mem_cons.mp hy).elim (fun e => e ▸ h1) fun hy => lt_tr h1 (a y hy), h⟩
    · rw [if_neg h1]
      by_cases h2 : q < p
      · rw [if_pos h2]
        exact List.pairwise_cons.mpr ⟨fun y hy => (mem_ins.mp hy).elim (fun e => e ▸ h2) fun hy => a y hy, up_ins b⟩
      · rw [if_neg h2]; exact h
theorem mem_asc {x : Wd} : ∀ {l : List Wd}, x ∈ asc l ↔ x ∈ l
  | [] => Iff.rfl
  | p :: r => by unfold asc; rw [mem_ins, mem_asc (l := r), List.mem_cons]
theorem up_asc : ∀ l : List Wd, Up (asc l)
  | [] => List.Pairwise.nil
  | p :: r => up_ins (up_asc r)
theorem up_uniq : ∀ {l m : List Wd}, Up l → Up m → (∀ x, x ∈ l ↔ x ∈ m) → l = m
  | [], [], _, _, _ => rfl
  | [], y :: m, _, _, h => absurd ((h y).mpr (List.mem_cons_self ..)) (by simp)
  | x :: l, [], _, _, h => absurd ((h x).mp (List.mem_cons_self ..)) (by simp)
  | x :: l, y :: m, hl, hm, h => by
    obtain ⟨a1, a2⟩ := List.pairwise_cons.mp hl
    obtain ⟨b1, b2⟩ := List.pairwise_cons.mp hm
    have e : x = y := by
      rcases List.mem_cons.mp ((h x).mp (List.mem_cons_self ..)) with e | hx
      · exact e
      · rcases List.mem_cons.mp ((h y).mpr (List.mem_cons_self ..)) with e | hy
        · exact e.symm
        · exact absurd (a1 y hy) (lt_as (b1 x hx))
    subst e
    refine congrArg (x :: ·) (up_uniq a2 b2 fun z => ?_)
    have hz := h z
    simp only [List.mem_cons] at hz
    constructor
    · intro q
      rcases hz.mp (.inr q) with e | w
      · exact absurd (a1 z q) (e ▸ lt_irr _)
      · exact w
    · intro q
      rcases hz.mpr (.inr q) with e | w
      · exact absurd (b1 z q) (e ▸ lt_irr _)
      · exact w
theorem up_nodup {l : List Wd} (h : Up l) : l.Nodup := List.Pairwise.imp (fun {a b} (q : a < b) (e : a = b) => lt_irr b (by rw [e] at q; exact q)) h
/-- a sorted list without doubles ascends -/
theorem up_of_le : ∀ {l : List Wd}, l.Pairwise (fun x y => ¬ y < x) → l.Nodup → Up l
  | [], _, _ => List.Pairwise.nil
  | x :: l, h, d => by
    obtain ⟨a1, a2⟩ := List.pairwise_cons.mp h
    obtain ⟨b1, b2⟩ := List.nodup_cons.mp d
    refine List.pairwise_cons.mpr ⟨fun y hy => ?_, up_of_le a2 b2⟩
    by_cases c : x < y
    · exact c
    · exact absurd (lt_tri c (a1 y hy) ▸ hy) b1
theorem asc_length_le : ∀ l : List Wd, (asc l).length ≤ l.length
  | [] => Nat.le_refl _
  | p :: r => by
    have h : ∀ m : List Wd, (ins p m).length ≤ m.length + 1 := by
      intro m
      induction m with
      | nil => exact Nat.le_refl _
      | cons q m ih =>
        unfold ins
        by_cases h1 : p < q
        · simp [h1]
        · by_cases h2 : q < p
          · simp [h1, h2]; exact ih
          · simp [h1, h2]
    exact Nat.le_trans (h _) (Nat.succ_le_succ (asc_length_le r))
theorem asc_congr {l m : List Wd} (h : ∀ x, x ∈ l ↔ x ∈ m) : asc l = asc m := up_uniq (up_asc _) (up_asc _) fun x => by rw [mem_asc, mem_asc, h x]
/-- the pieces of k signs, from the left -/
def win (k : Nat) (z : Wd) (i : Nat) : Wd := (z.drop i).take k
def wins (k : Nat) (z : Wd) : List Wd := (List.range (z.length + 1 - k)).map (win k z)
theorem wins_length (k : Nat) (z : Wd) : (wins k z).length = z.length + 1 - k := by simp [wins]
theorem wins_get {k : Nat} {z : Wd} {i : Nat} (h : i < z.length + 1 - k) : (wins k z)[i]? = some (win k z i) := by simp [wins, h]
theorem win_length {k : Nat} {z : Wd} {i : Nat} (h : i < z.length + 1 - k) : (win k z i).length = k := by
  simp [win]; omega
theorem wins_len {k : Nat} {z p : Wd} (h : p ∈ wins k z) : p.length = k := by
  obtain ⟨i, hi, rfl⟩ := List.mem_map.mp h
  exact win_length (List.mem_range.mp hi)
theorem wins_mem {k : Nat} {z p : Wd} (h : p ∈ wins k z) : ∀ c ∈ p, c ∈ z := by
  obtain ⟨i, hi, rfl⟩ := List.mem_map.mp h
  intro c hc
  exact List.mem_of_mem_drop (List.mem_of_mem_take hc)
/-- how often a piece stands in a word -/
def often (k : Nat) (z p : Wd) : Nat := (wins k z).count p
theorem often_pos {k : Nat} {z p : Wd} : 0 < often k z p ↔ p ∈ wins k z := List.count_pos_iff
theorem often_le (k : Nat) (z p : Wd) : often k z p ≤ z.length + 1 - k := by
  rw [← wins_length]; exact List.count_le_length
/-- the wins so far -/
theorem take_succ_wins {k : Nat} {z : Wd} {i : Nat} (h : i < z.length + 1 - k) : (wins k z).take (i + 1) = (wins k z).take i ++ [win k z i] := by
  rw [List.take_add_one, wins_get h]; rfl
/-! ### counting from place to place -/
def upto (k : Nat) (z p : Wd) (j : Nat) : Nat := ((wins k z).take j).count p
theorem upto_all {k : Nat} {z p : Wd} {j : Nat} (h : z.length + 1 - k ≤ j) : upto k z p j = often k z p := by
  unfold upto often
  rw [List.take_of_length_le (by rw [wins_length]; exact h)]
theorem upto_none {k : Nat} {z p : Wd} {a b : Nat} (h : a ≤ b) (hn : ∀ i, a ≤ i → i < b → i < z.length + 1 - k → win k z i ≠ p) : upto k z p b = upto k z p a := by
  induction b with
  | zero => cases Nat.le_zero.mp h; rfl
  | succ b ih =>
    by_cases e : a = b + 1
    · rw [e]
    · have r := ih (by omega) fun i h1 h2 h3 => hn i h1 (by omega) h3
      rw [← r]
      unfold upto
      by_cases hb : b < z.length + 1 - k
      · rw [take_succ_wins hb, List.count_append, List.count_singleton, if_neg]
        · rfl
        · simpa using hn b (by omega) (by omega) hb
      · rw [List.take_of_length_le (by rw [wins_length]; omega), List.take_of_length_le (by rw [wins_length]; omega)]
theorem upto_hit {k : Nat} {z p : Wd} {b : Nat} (hb : b < z.length + 1 - k) (h : win k z b = p) : upto k z p (b + 1) = upto k z p b + 1 := by
  unfold upto
  rw [take_succ_wins hb, List.count_append, List.count_singleton, if_pos (by simpa using h)]
theorem upto_zero {k : Nat} {z p : Wd} {i : Nat} (h : p ∉ (wins k z).take i) : upto k z p i = 0 := List.count_eq_zero.mpr h
theorem upto_miss {k : Nat} {z p : Wd} {b : Nat} (hb : b < z.length + 1 - k) (h : p ≠ win k z b) : upto k z p (b + 1) = upto k z p b := by
  unfold upto
  rw [take_succ_wins hb, List.count_append, List.count_singleton, if_neg (by simpa using fun e => h e.symm)]
  rfl
theorem mem_take_succ {k : Nat} {z p : Wd} {i : Nat} (hi : i < z.length + 1 - k) : p ∈ (wins k z).take (i + 1) ↔ p ∈ (wins k z).take i ∨ p = win k z i := by
  rw [take_succ_wins hi, List.mem_append, List.mem_singleton]
end Vm

set_option Elab.async false
set_option linter.all false
set_option maxRecDepth 100000
set_option maxHeartbeats 4000000
/-! ### texts, any number of them, sorted -/
namespace SrtO
open PySem PyProof.Rows Srt
section
variable {prog : Program} {w : World} {A : Around} {E : Value → Shared → Prop} {s : Shared}
def ltSv (v u : Value) : Bool := decide ((strOf v).cps.toList < (strOf u).cps.toList)
theorem swo_text : Swo ltSv := by
  refine ⟨fun x y h => ?_, fun x y z h1 h2 => ?_⟩
  · have a := of_decide_eq_true (p := (strOf x).cps.toList < (strOf y).cps.toList) h
    exact decide_eq_false (p := (strOf y).cps.toList < (strOf x).cps.toList) (Vm.lt_as a)
  · have a := of_decide_eq_false (p := (strOf y).cps.toList < (strOf x).cps.toList) h1
    have b := of_decide_eq_false (p := (strOf z).cps.toList < (strOf y).cps.toList) h2
    exact decide_eq_false (p := (strOf z).cps.toList < (strOf x).cps.toList) (Vm.le_tr a b)
theorem strs_mem : ∀ {vs : List Value} {ns : List PySem.Str}, StrsAre vs ns → ∀ v ∈ vs, ∃ i t, v = Value.str i t
  | _, _, .nil, v, h => absurd h (by simp)
  | _, _, .cons n t r, v, h => by
    rcases List.mem_cons.mp h with e | h
    · exact ⟨n, t, e⟩
    · exact strs_mem r v h
theorem strs_sv : ∀ {vs : List Value} {ns : List PySem.Str}, StrsAre vs ns → vs.map strOf = ns
  | _, _, .nil => rfl
  | _, _, .cons n t r => congrArg (n :: ·) (strs_sv r)
theorem text_cmp {vs : List Value} {ns : List PySem.Str} (hI : StrsAre vs ns) : Cmp prog w A s oneType' (fun p => p.1 ∈ vs) (lt2 ltSv) := by
  intro p q hm hm'
  obtain ⟨a, t, e⟩ := strs_mem hI _ hm
  obtain ⟨b, u, e'⟩ := strs_mem hI _ hm'
  show wpAny (model prog w) A (keyLt' oneType' p.1 q.1) (fun r s' => s' = s ∧ r = ltSv p.1 q.1) (fun _ _ => False) s
  rw [e, e', keyLt'_oneType]
  exact oneLt_str ⟨rfl, rfl⟩
theorem texts_sortable {a : Addr} {vs : List Value} {ns : List PySem.Str} (hI : StrsAre vs ns) (h2 : 2 ≤ vs.length) : SortableO prog w A s a vs ltSv := by
  intro h' _
  refine ⟨oneType', fun Q E hq => ?_, text_cmp hI⟩
  match vs, hI, h2 with
  | v1 :: v2 :: rest, hI, _ =>
    rw [keyKind_strs hI]
    exact wpAny_pure hq
  | [], _, h => exact absurd h (by decide)
  | [v], _, h => exact absurd h (by simp)
/-- a sorted list of texts -/
abbrev UpS (l : List PySem.Str) : Prop := l.Pairwise fun x y => ¬ y.cps.toList < x.cps.toList
theorem texts_out {vs out : List Value} {ns : List PySem.Str} (hI : StrsAre vs ns) (hs : Srtd ltSv out) (hb : Stb ltSv out vs) : StrsAre out (out.map strOf) ∧ (out.map strOf).Perm ns ∧ UpS (out.map strOf) := by
  refine ⟨Vs.strs_of out fun v hv => strs_mem hI v (hb.perm.mem_iff.mp hv), ?_, ?_⟩
  · have q := hb.perm.map strOf
    rw [strs_sv hI] at q
    exact q
  · exact List.pairwise_map.mpr (hs.imp fun {x y} h => of_decide_eq_false (p := (strOf y).cps.toList < (strOf x).cps.toList) h)
end
end SrtO
namespace Vs
open PySem PySem.Spec PyProof.Rows L2 SrtO
open PySem.Froz (SD sObj addTx tailTx sing TxOk)
section
variable {P : Program} {w : World} {A : Around} {E : Value → Shared → Prop} {s : Shared}
/-- the collected texts, as a new list that is sorted -/
theorem sort_collected {α : Type} {vs : List Value} {ks : List PySem.Str} {s1 : Shared} {t : Value → Sem α} {Q : α → Shared → Prop} (hS : StrsAre vs ks) (hz : vs.length ≤ sizeLine)
    (h : ∀ (h' : Heap) p (out : List Value) (c : Nat) (ys : List PySem.Str), (∀ b o, s1.heap.get? b = some o → h'.get? b = some o) → s1.heap.objs.size ≤ p →
      h'.get? p = some (seqObj "list" out.toArray c) → StrsAre out ys → ys.Perm ks → UpS ys → wpAny (model P w) A (t (.ref p)) Q E { s1 with heap := h' }) :
    wpAny (model P w) A (do
      let r ← newList vs
      let _ ← holding [r] (call (.builtin "list.sort") [r] [])
      t r) Q E s1 := by
  refine wpAny_bind (wpAny_newList ?_ hz)
  have hL : (s1.heap.push (seqObj "list" vs.toArray 0)).get? s1.heap.objs.size = some (seqObj "list" vs.toArray 0) := Heap.get?_push_size _ rfl
  refine wpAny_bind (wpAny_holding (wpAny_call_entry slot_list_sort ⟨_, hL, rfl⟩ entry_list_sort
    (list_sort_ord swo_text hL hz (fun h2 => texts_sortable hS h2) fun out h1 h2 => ⟨_, rfl, ?_⟩) (args_list_sort _)))
  obtain ⟨y1, y2, y3⟩ := texts_out hS h1 h2
  obtain ⟨c, hc⟩ := sortedHeap_at (vs := vs) (out := out.toArray) hL
  refine h _ s1.heap.objs.size out c _ (fun b u q => ?_) (Nat.le_refl _) hc y1 y2 y3
  have hb := Heap.lt_size q
  rw [sortedHeap_old (Nat.ne_of_lt hb) (by rw [size_push']; exact Nat.lt_succ_of_lt hb)]
  exact Heap.get?_push_of_some _ q
end
end Vs

set_option Elab.async false
set_option linter.all false
set_option maxRecDepth 100000
set_option maxHeartbeats 4000000
namespace Vs
open PySem PySem.Spec PyProof.Rows L2 SrtO
open PySem.Froz (SD sObj addTx tailTx sing TxOk)
/-! ### set(d), d a dict whose keys are texts -/
theorem above_go (n : Nat) (hn : n ≤ 8192) : ∀ fuel size, size ≤ 16384 → SetTable.sizeAbove.go n fuel size ≤ 16384
  | 0, size, h => by unfold SetTable.sizeAbove.go; exact h
  | fuel + 1, size, h => by
    unfold SetTable.sizeAbove.go
    split
    · exact above_go n hn fuel (size * 2) (by omega)
    · exact h
theorem above_le {n : Nat} (hn : n ≤ 8192) : SetTable.sizeAbove n ≤ 16384 := above_go n hn 64 8 (by decide)
theorem live_none (m : Nat) : (List.range (m + 1)).filterMap (fun j => ((Array.replicate (m + 1) (none : Option Nat)).getD j none).map (j, ·)) = [] := by
  refine List.filterMap_eq_nil_iff.mpr fun j _ => ?_
  have e : (Array.replicate (m + 1) (none : Option Nat)).getD j none = none := by
    rw [Array.getD_eq_getD_getElem?, Array.getElem?_replicate]
    split <;> rfl
  rw [e]
  rfl
theorem relaid_none (t : SetTable) (n : Nat) : ∃ t', t.relaid #[] n = some (t', #[]) ∧ t'.place = #[] ∧ t'.dummies = #[] ∧ t'.led = t.led := by
  refine ⟨{ mask := SetTable.sizeAbove n - 1, place := #[], dummies := #[], finger := t.finger, led := t.led, moves := t.movedTo (SetTable.sizeAbove n - 1), plain := t.plain }, ?_, rfl, rfl, rfl⟩
  have e : SetTable.layClean (SetTable.sizeAbove n - 1) #[] = some (Array.replicate (SetTable.sizeAbove n - 1 + 1) none) := rfl
  have l := live_none (SetTable.sizeAbove n - 1)
  unfold SetTable.relaid SetTable.laid
  rw [e]
  show some (({ mask := SetTable.sizeAbove n - 1, place := (((List.range (SetTable.sizeAbove n - 1 + 1)).filterMap (fun j => ((Array.replicate (SetTable.sizeAbove n - 1 + 1) (none : Option Nat)).getD j none).map (j, ·))).map Prod.fst).toArray, dummies := #[], finger := t.finger, led := t.led, moves := t.movedTo (SetTable.sizeAbove n - 1), plain := t.plain } : SetTable), (((List.range (SetTable.sizeAbove n - 1 + 1)).filterMap (fun j => ((Array.replicate (SetTable.sizeAbove n - 1 + 1) (none : Option Nat)).getD j none).map (j, ·))).map Prod.snd).toArray) = _
  rw [l]
  rfl
section
variable {P : Program} {w : World} {A : Around} {E : Value → Shared → Prop} {s : Shared}
theorem room_fresh {S : Addr} {n : Nat} {Q : Unit → Shared → Prop} (hS : s.heap.get? S = some (sObj "set" (emptyD w))) (hn : n ≤ 4000)
    (h : ∀ h' D, Heap.SameBut S s.heap h' → h'.get? S = some (sObj "set" D) → Tx P w D [] → Q () { s with heap := h' }) : wpAny (model P w) A (setRoomFor S n) Q E s := by
  have hd : (sObj "set" (emptyD w)).data = .set #[] 0 (.fresh 0 0 (!w.params.followText "set-order")) := rfl
  have keep : Q () s := h s.heap (emptyD w) (Heap.SameBut.refl _ _) hS tx_empty
  unfold setRoomFor
  refine wpAny_bind (wpAny_setState_of hS hd (by rfl) ?_)
  dsimp only
  unfold SetTable.roomFor
  by_cases c : ((SetTable.fresh 0 0 (!w.params.followText "set-order")).fill + n) * 5 ≥ (SetTable.fresh 0 0 (!w.params.followText "set-order")).mask * 3
  · rw [if_pos c]
    dsimp only
    generalize hw : ((SetTable.fresh 0 0 (!w.params.followText "set-order")).place.size + n) * 2 = wanted
    have hw2 : wanted ≤ 8192 := by
      have z : (SetTable.fresh 0 0 (!w.params.followText "set-order")).place.size = 0 := rfl
      rw [z] at hw
      omega
    obtain ⟨t', e, e1, e2, e3⟩ := relaid_none (SetTable.fresh 0 0 (!w.params.followText "set-order")) wanted
    rw [setRelay_eq]
    refine wpAny_bind (wpAny_setState_of hS hd (by rfl) ?_)
    dsimp only
    refine wp_if_neg (by have z := above_le hw2; rw [sizeLine_eq]; omega) ?_
    try refine wpAny_bind (wpAny_pure ?_)
    rw [show (#[] : Array (Int × Value)).map (·.1) = (#[] : Array Int) from by simp, e]
    dsimp only
    refine wpAny_bind ?_
    refine wp_if_neg (by simp) ?_
    try refine wpAny_bind (wpAny_pure ?_)
    refine wpAny_pure ?_
    dsimp only
    refine wpAny_storeSet_of hS hd ?_ (by simp)
    have sb : Heap.SameBut S s.heap (s.heap.update S (Obj.putSet ((#[] : Array Nat).filterMap ((#[] : Array (Int × Value))[·]?)) t')) := Heap.SameBut.update ..
    refine h _ (#[], 1, t') sb (store_at hS hd) ⟨TxOk.nil ?_, ?_, ?_, List.nodup_nil⟩
    · simp [SetTable.fits, SetTable.fill, e1, e2]
    · rw [e1]; exact List.Pairwise.nil
    · rw [e3]
      show _ ∨ (!w.params.followText "set-order") = true
      cases w.params.followText "set-order" <;> simp
  · rw [if_neg c]
    exact wpAny_pure keep
theorem sub_dict_set : isSubtype (.type "dict") (.type "set") = pure false := by rw [isSubtype_type]; kernel_rfl
theorem sub_dict_frozenset : isSubtype (.type "dict") (.type "frozenset") = pure false := by rw [isSubtype_type]; kernel_rfl
/-- the keys are put in, one by one -/
theorem call_set_dict {d : Addr} {vs : List (Key × Value)} {ks : List Str} {Q : Value → Shared → Prop} (hd : s.heap.DictOf (mixKind P w) d vs) (hds : (d == sysModules) = false) (hk : vs.map (·.1) = ks.map Sum.inr) (hl : ks.length ≤ 4000)
    (h : ∀ (s' : Shared) D l, (∀ b o, s.heap.get? b = some o → s'.heap.get? b = some o) → s'.gens = s.gens → s'.os = s.os → s'.heap.get? s.heap.objs.size = some (sObj "set" D) → Tx P w D l → (∀ k, k ∈ l ↔ k ∈ ks) → l.length = ks.length → Q (.ref s.heap.objs.size) s') :
    wpAny (model P w) A (call (.type "set") [.ref d]) Q E s := by
  refine set_by_init fun R hR => ?_
  obtain ⟨o, es, ep, ho, hc, hdat, hkeys, hpairs, hnd⟩ := id hd
  have hne : d ≠ s.heap.objs.size := Nat.ne_of_lt (Heap.lt_size ho)
  have hS : (s.heap.push (sObj "set" (emptyD w))).get? s.heap.objs.size = some (sObj "set" (emptyD w)) := Heap.get?_push_size _ rfl
  have ho1 : (s.heap.push (sObj "set" (emptyD w))).get? d = some o := Heap.get?_push_of_some _ ho
  have hold : ∀ b o, s.heap.get? b = some o → b ≠ s.heap.objs.size ∧ (s.heap.push (sObj "set" (emptyD w))).get? b = some o := fun b o e => ⟨Nat.ne_of_lt (Heap.lt_size e), Heap.get?_push_of_some _ e⟩
  have hty : Shared.TypeIs { s with heap := s.heap.push (sObj "set" (emptyD w)) } (.ref d) "dict" := ⟨o, ho1, hc.1⟩
  generalize s.heap.push (sObj "set" (emptyD w)) = h1 at hS ho1 hold hty ⊢
  have t1 := sub_dict_set
  have t2 := sub_dict_frozenset
  unfold Builtin.«set.__init__» noKeywords Builtin.Frozenset.updateFrom
  wp_walk
  rw [hdat]
  refine wpAny_pure ?_
  refine wpAny_bind (wpAny_dictEntries ho1 hdat ?_)
  have hlen : es.size = ks.length := by
    have e1 := hpairs.length
    have e2 := congrArg List.length hk
    rw [List.length_map, List.length_map] at e2
    rw [Array.length_toList] at e1
    omega
  have hksn : ks.Nodup := by
    have z := hnd
    rw [hk] at z
    exact (List.pairwise_map.mp z).imp fun {a b} q e => q (by rw [e])
  refine wpAny_bind (room_fresh hS (by rw [hlen]; exact hl) fun h2 D sb hS2 F => ?_)
  have ho2 : h2.get? d = some o := (sb.2 d hne).trans ho1
  refine wpAny_bind (wpAny_dictEntries ho2 hdat ?_)
  refine wpAny_bind ?_
  refine SeqAt.wpAny_forIn_span 0 es.size _ (fun i _ s' => ∃ h' D l, s' = { s with heap := h' } ∧ h'.get? s.heap.objs.size = some (sObj "set" D) ∧ Tx P w D l ∧ l.length = i ∧ (∀ k, k ∈ l ↔ k ∈ ks.take i) ∧ (∀ b o', b ≠ s.heap.objs.size → h1.get? b = some o' → h'.get? b = some o'))
    _ ?_ ?_ _ ⟨h2, D, [], rfl, hS2, F, rfl, (fun k => by simp), fun b o' n e => (sb.2 b n).trans e⟩
  · rintro i _ s' _ hi ⟨h', D1, l, rfl, g1, g2, g3, g4, g5⟩
    have ho3 := g5 d o hne ho1
    refine wpAny_bind (wpAny_dictEntries ho3 hdat ?_)
    rw [Array.getElem?_eq_getElem hi]
    have hik : i < ks.length := by omega
    obtain ⟨kv, hkv⟩ : ∃ kv, vs[i]? = some kv := by
      have e2 := congrArg List.length hk
      rw [List.length_map, List.length_map] at e2
      exact ⟨vs[i]'(by omega), List.getElem?_eq_getElem _⟩
    obtain ⟨kk, vv⟩ := kv
    obtain ⟨hkey, hval⟩ := hpairs.get? (e := es[i]) (by simp [hi]) hkv
    obtain ⟨k', hkey', hhash⟩ := hkeys es[i] (Array.getElem_mem hi)
    obtain rfl : k' = kk := (mixKind P w).inj _ _ _ hkey' hkey
    have ekk : k' = Sum.inr ks[i] := by
      have z := congrArg (fun l => l[i]?) hk
      simp only [List.getElem?_map, hkv, Option.map_some, List.getElem?_eq_getElem hik] at z
      exact Option.some.inj z
    subst ekk
    obtain ⟨tk, ev⟩ := Value.isStrOf_shape (x := ks[i]) (v := es[i].key) hkey
    show wpAny _ _ (holding [es[i].key] (setAddHashed s.heap.objs.size es[i].key es[i].hash) >>= _) _ _ _
    rw [hhash, ev]
    have hni : ks[i] ∉ l := fun z => by
      obtain ⟨j, hj, e⟩ := List.getElem_of_mem ((g4 _).mp z)
      rw [List.length_take] at hj
      rw [List.getElem_take] at e
      exact List.pairwise_iff_getElem.mp hksn j i (by omega) hik (by omega) e
    refine wpAny_bind (wpAny_holding (Froz.add_x (s := { s with heap := h' }) g1 g2.ok hni (by rw [g3]; exact Nat.lt_of_le_of_lt (show i + 1 ≤ 4000 by omega) (by decide)) ?_))
    have hS3 : (h'.update s.heap.objs.size (fun _ => sObj "set" (addTx (hashStr w ks[i]) (.str ks[i] tk) D1))).get? s.heap.objs.size = some (sObj "set" (addTx (hashStr w ks[i]) (.str ks[i] tk) D1)) := Froz.get_upd _ g1 rfl
    have other : ∀ b o', b ≠ s.heap.objs.size → h'.get? b = some o' → (h'.update s.heap.objs.size (fun _ => sObj "set" (addTx (hashStr w ks[i]) (.str ks[i] tk) D1))).get? b = some o' := fun b o' n e => (Heap.get?_update_other _ _ (Ne.symm n)).trans e
    refine wpAny_bind (wpAny_dictEpoch (other d o hne ho3) hdat ?_)
    rw [if_neg (by simp)]
    refine wpAny_pure ⟨_, _, ks[i] :: l, rfl, hS3, g2.add tk hni, (by rw [List.length_cons, g3]), fun k => ?_, fun b o' n e => other b o' n (g5 b o' n e)⟩
    rw [List.take_add_one, List.getElem?_eq_getElem hik, List.mem_append, List.mem_cons, g4 k]
    simp [Or.comm]
  · rintro _ s' ⟨h', D1, l, rfl, g1, g2, g3, g4, g5⟩
    have em : max 0 es.size = ks.length := by rw [hlen]; exact Nat.max_eq_right (Nat.zero_le _)
    rw [em] at g3 g4
    rw [List.take_length] at g4
    exact wpAny_pure (wpAny_pure (hR _ (h { s with heap := h' } D1 l (fun b o' e => g5 b o' (hold b o' e).1 (hold b o' e).2) rfl rfl g1 g2 g4 g3)))
end
end Vs

set_option Elab.async false
set_option linter.all false
set_option maxRecDepth 100000
set_option maxHeartbeats 4000000
namespace Vm
open PySem PySem.Spec PyProof.Rows L2 L2.Vx
/-! ### words as texts; dicts whose keys are words -/
def mkS (l : Wd) : Str := ⟨l.toArray⟩
theorem mkS_cps (l : Wd) : (mkS l).cps.toList = l := by simp [mkS]
theorem mkS_of (z : Str) : mkS z.cps.toList = z := by obtain ⟨⟨l⟩⟩ := z; rfl
theorem mkS_inj {a b : Wd} (h : mkS a = mkS b) : a = b := by rw [← mkS_cps a, h, mkS_cps]
theorem mkS_length (l : Wd) : (mkS l).length = l.length := by
  show l.toArray.size = _
  simp
abbrev kS (p : Wd) : Key := Sum.inr (mkS p)
theorem kS_iff {a b : Wd} : kS a = kS b ↔ a = b := ⟨fun h => mkS_inj (Sum.inr.inj h), fun h => by rw [h]⟩
def entK (f : Wd → V) (ks : List Wd) : List (Key × V) := ks.map fun k => (kS k, f k)
theorem entK_length (f : Wd → V) (ks : List Wd) : (entK f ks).length = ks.length := List.length_map _
theorem entK_keys (f : Wd → V) (ks : List Wd) : (entK f ks).map (·.1) = (ks.map mkS).map Sum.inr := by
  unfold entK
  rw [List.map_map, List.map_map]
  rfl
theorem entK_congr {f g : Wd → V} {ks : List Wd} (h : ∀ p ∈ ks, f p = g p) : entK f ks = entK g ks := List.map_congr_left fun p hp => by rw [h p hp]
theorem valV_ent (f : Wd → V) (p : Wd) : ∀ ks : List Wd, valV (entK f ks) (kS p) = if p ∈ ks then some (f p) else none
  | [] => by simp [entK, valV_nil]
  | q :: r => by
    show valV ((kS q, f q) :: entK f r) (kS p) = _
    by_cases e : q = p
    · subst e
      rw [valV_pos (p := (kS q, f q)) rfl, if_pos (List.mem_cons_self ..)]
    · rw [valV_neg (p := (kS q, f q)) (fun z => e (kS_iff.mp z)), valV_ent f p r]
      have e' : ¬ p = q := fun z => e z.symm
      simp only [List.mem_cons, e', false_or]
theorem get_ent {H : Hp} {d : Addr} {f : Wd → V} {ks : List Wd} {p : Wd} (e : H d = some (.dK (entK f ks))) (h : p ∈ ks) : DGet H d (.str (mkS p)) (some (f p)) := by
  have z := DGet.k (k := kS p) e
  rw [valV_ent, if_pos h] at z
  exact z
theorem getD_ent {f : Wd → V} {ks : List Wd} {p : Wd} {v : V} (h : p ∉ ks → f p = v) : (valV (entK f ks) (kS p)).getD v = f p := by
  rw [valV_ent]
  split
  · rfl
  · rename_i c
    exact (h c).symm
/-- f, but v at p -/
def at' (f : Wd → V) (p : Wd) (v : V) : Wd → V := fun q => if q = p then v else f q
/-- p behind the others, if it is new -/
def more (ks : List Wd) (p : Wd) : List Wd := if p ∈ ks then ks else ks ++ [p]
theorem putK_ent (f : Wd → V) (p : Wd) (v : V) (ks : List Wd) : putK (entK f ks) (kS p) v = entK (at' f p v) (more ks p) := by
  have e := valV_ent f p ks
  unfold more
  by_cases h : p ∈ ks
  · rw [if_pos h]
    rw [if_pos h] at e
    unfold putK
    rw [valV_any, e, if_pos (show (some (f p)).isSome = true from rfl)]
    unfold entK
    rw [List.map_map]
    refine List.map_congr_left fun q _ => ?_
    show (if kS q = kS p then (kS q, v) else (kS q, f q)) = (kS q, if q = p then v else f q)
    by_cases c : q = p
    · rw [if_pos (kS_iff.mpr c), if_pos c]
    · rw [if_neg (fun z => c (kS_iff.mp z)), if_neg c]
  · rw [if_neg h]
    rw [if_neg h] at e
    rw [putK_new _ e]
    unfold entK
    rw [List.map_append]
    refine congr (congrArg _ (List.map_congr_left fun q hq => ?_)) ?_
    · have c : ¬ q = p := fun z => h (z ▸ hq)
      show (kS q, f q) = (kS q, if q = p then v else f q)
      rw [if_neg c]
    · show [(kS p, v)] = [(kS p, if p = p then v else f p)]
      rw [if_pos rfl]
theorem more_nodup {ks : List Wd} (h : ks.Nodup) (p : Wd) : (more ks p).Nodup := by
  unfold more
  split
  · exact h
  · rename_i c
    refine List.nodup_append.mpr ⟨h, List.nodup_cons.mpr ⟨by simp, List.nodup_nil⟩, fun a ha b hb e => ?_⟩
    rw [List.mem_singleton.mp hb] at e
    exact c (e ▸ ha)
theorem mem_more {ks : List Wd} {p q : Wd} : q ∈ more ks p ↔ q ∈ ks ∨ q = p := by
  unfold more
  split
  · rename_i c
    exact ⟨.inl, fun h => h.elim id fun e => e ▸ c⟩
  · simp
theorem more_length (ks : List Wd) (p : Wd) : (more ks p).length ≤ ks.length + 1 := by
  unfold more
  split <;> simp
/-- the sorted texts of such keys -/
theorem sorted_is {ks : List Wd} {ys : List Str} (p : ys.Perm (ks.map mkS)) (u : SrtO.UpS ys) (d : ks.Nodup) : ys = (asc ks).map mkS := by
  have p2 : (ys.map fun y => y.cps.toList).Perm ks := by
    have z := p.map fun y : Str => y.cps.toList
    rw [List.map_map] at z
    have e : (fun y : Str => y.cps.toList) ∘ mkS = id := funext mkS_cps
    rw [e, List.map_id] at z
    exact z
  have u2 : (ys.map fun y => y.cps.toList).Pairwise (fun x y => ¬ y < x) := List.pairwise_map.mpr u
  have u3 := up_of_le u2 (p2.nodup_iff.mpr d)
  have e := up_uniq u3 (up_asc ks) fun x => by rw [mem_asc]; exact p2.mem_iff
  rw [← e, List.map_map]
  have e2 : mkS ∘ (fun y : Str => y.cps.toList) = id := funext mkS_of
  rw [e2, List.map_id]
/-! ### pairs of a word and a number, as data -/
abbrev pairD (f : Wd → Int) (p : Wd) : PyData := .tuple [.str (mkS p), .int (f p)]
def pairsD (f : Wd → Int) (l : List Wd) : PyData := .tuple (l.map (pairD f))
theorem dtAll_snoc {H : Hp} {S : Addr → Prop} {D t : Addr} {vs ws : List V} {ds : List PyData} {d : PyData} {o : HO} (h : DtAll H S vs ds) (hS : ∀ a, S a → a ≠ D) (ht : H t = none) (st : S t) (e : Dt (upd (upd H t (.tup ws)) D o) S (.ref t) d) :
    DtAll (upd (upd H t (.tup ws)) D o) S (vs ++ [.ref t]) (ds ++ [d]) := by
  refine DtAll.append (h.mono (fun a u sa hu => ?_) fun _ _ s _ => s) (.cons e .nil)
  rw [upd_ne (hS a sa), upd_ne (ne_of_none hu ht)]
  exact hu
end Vm

set_option Elab.async false
set_option linter.all false
set_option maxRecDepth 100000
set_option maxHeartbeats 4000000
namespace Vs
open PySem PySem.Spec PyProof.Rows L2 SrtO Vm
open PySem.Froz (SD sObj addTx tailTx sing TxOk)
section
variable {P : Program} {w : World} {A : Around} {E : Value → Shared → Prop} {s : Shared}
theorem mkS_nodup {ks : List Wd} (h : ks.Nodup) : (ks.map mkS).Nodup := List.Pairwise.map mkS (fun a b n e => n (mkS_inj e)) h
/-- sorted(set of texts), any number of them -/
theorem sorted_set_any {a : Addr} {D : SD} {l : List Str} {Q : Value → Shared → Prop} (ho : s.heap.get? a = some (sObj "set" D)) (F : Tx P w D l) (hh : A.handled = none) (hl : l.length < scanBound)
    (h : ∀ (s' : Shared) p (out : List Value) (c : Nat) (ys : List Str), (∀ b o, s.heap.get? b = some o → s'.heap.get? b = some o) → s'.gens = s.gens → s'.os = s.os → s.heap.objs.size ≤ p →
      s'.heap.get? p = some (seqObj "list" out.toArray c) → StrsAre out ys → ys.Perm l → UpS ys → Q (.ref p) s') :
    wpAny (model P w) A (call (.builtin "sorted") [.ref a]) Q E s := by
  obtain ⟨v1, v2⟩ := F.vals
  have hsz : D.1.size = l.length := F.ok.sz
  refine Calls.call_function_entry kind_sorted plain_sorted entry_sorted (args_sorted1 _) ?_
  unfold Builtin.«sorted»
  refine wpAny_bind (m := checkCount "sorted" 1 1 _) (wpAny_pure ?_)
  refine wpAny_bind (collect_set (A := A.in1) (es := D.1) (ep := D.2.1) (t := D.2.2) hh ⟨_, ho, rfl, rfl⟩ F.ok.fit (by rw [hsz]; exact hl) F.ris F.led fun s1 vs k1 z1 g1 o1 pm => ?_)
  have len : vs.length = l.length := by rw [pm.length_eq, List.length_map, Array.length_toList, hsz]
  have hS : StrsAre vs (vs.map strOf) := strs_of vs fun v hv => by
    obtain ⟨e, he, rfl⟩ := List.mem_map.mp (pm.mem_iff.mp hv)
    obtain ⟨k, tk, q, _⟩ := v1 e he
    exact ⟨k, tk, q⟩
  have pl : (vs.map strOf).Perm l := (pm.map strOf).trans (by rw [List.map_map]; exact v2)
  have hz : vs.length ≤ sizeLine := by
    rw [len, sizeLine_eq]
    exact Nat.le_trans (Nat.le_of_lt hl) (by decide)
  refine sort_collected hS hz fun h' p out c ys k2 hp hc y1 y2 y3 => ?_
  exact wpAny_pure ⟨_, rfl, h _ p out c ys (fun b u e => k2 b u (k1 b u e)) g1 o1 (Nat.le_trans z1 hp) hc y1 (y2.trans pl) y3⟩
end
section
variable {X : Cx}
/-- set(d) -/
theorem cr_setDict (hc : X.calm = true) : CallR X (.type "set") (fun xs H Q => ∃ (a : Addr) (f : Wd → V) (ks : List Wd), xs = [.ref a] ∧ Rd H a (.dK (entK f ks)) ∧ ks.Nodup ∧ ks.length ≤ 4000 ∧ ∀ p l, H p = none → l.Perm (ks.map mkS) → Q (.ref p) (upd H p (SetTxO X.prog X.w p l))) := by
  intro pins s σ H vs us Q I r h
  obtain ⟨a, f, ks, rfl, ha, nd, hl, q⟩ := h
  rw [Vals.ref1 r]
  obtain ⟨z, lo, ws, rel, dd⟩ := dk_rd I.hok ha
  have hkeys : ws.map (·.1) = (ks.map mkS).map Sum.inr := rel.keys.symm.trans (entK_keys f ks)
  refine call_set_dict dd lo hkeys (by rw [List.length_map]; exact hl) fun s' D l k g o hS F hm hn => ?_
  exact laid_new I k g o (Nat.le_refl _) (setTxO_new ⟨D, hS, F⟩) fun hn' => q _ l hn' ((perm_same (ks.map mkS) l (mkS_nodup nd) (fun k hk => (hm k).mpr hk) (Nat.le_of_eq hn)))
/-- sorted(set of texts) -/
theorem cr_sortedTxK (hc : X.calm = true) : CallR X (.builtin "sorted") (fun xs H Q => ∃ (a : Addr) (l : List Str) (ks : List Wd), xs = [.ref a] ∧ H a = some (SetTxO X.prog X.w a l) ∧ l.Perm (ks.map mkS) ∧ ks.Nodup ∧ ks.length ≤ 4000 ∧
    ∀ p, H p = none → Q (.ref p) (upd H p (.lst (((asc ks).map mkS).map .str)))) := by
  intro pins s σ H vs us Q I r h
  obtain ⟨a, l, ks, rfl, ha, pl, nd, hl, q⟩ := h
  rw [Vals.ref1 r]
  obtain ⟨D, hS, F⟩ : SetTx X.prog X.w s.heap a l := (I.hok a _ ha).1
  have ll : l.length = ks.length := by rw [pl.length_eq, List.length_map]
  refine sorted_set_any hS F (I.ok.hd hc) (by rw [ll]; exact Nat.lt_of_le_of_lt hl (by decide)) fun s' p out c ys k g o hp hg hv pm so => ?_
  have e := sorted_is (pm.trans pl) so nd
  have len : (ys.map V.str).length ≤ sizeLine := by
    rw [List.length_map, pm.length_eq, ll, sizeLine_eq]
    omega
  have new : ObjOk X.prog X.w (upd H p (.lst (ys.map V.str))) s'.heap p (.lst (ys.map .str)) := ⟨len, out, c, vals_of_strs hv, hg⟩
  refine laid_new I k g o hp new fun hn => ?_
  rw [e]
  exact q p hn
theorem cr_setDictAt {P : Program} {w : World} (hc : X.calm = true) (eP : X.prog = P) (ew : X.w = w) : CallR X (.type "set") (fun xs H Q => ∃ (a : Addr) (f : Wd → V) (ks : List Wd), xs = [.ref a] ∧ Rd H a (.dK (entK f ks)) ∧ ks.Nodup ∧ ks.length ≤ 4000 ∧ ∀ p l, H p = none → l.Perm (ks.map mkS) → Q (.ref p) (upd H p (SetTxO P w p l))) := by
  subst eP
  subst ew
  exact cr_setDict hc
theorem cr_sortedTxAt {P : Program} {w : World} (hc : X.calm = true) (eP : X.prog = P) (ew : X.w = w) : CallR X (.builtin "sorted") (fun xs H Q => ∃ (a : Addr) (l : List Str) (ks : List Wd), xs = [.ref a] ∧ H a = some (SetTxO P w a l) ∧ l.Perm (ks.map mkS) ∧ ks.Nodup ∧ ks.length ≤ 4000 ∧
    ∀ p, H p = none → Q (.ref p) (upd H p (.lst (((asc ks).map mkS).map .str)))) := by
  subst eP
  subst ew
  exact cr_sortedTxK hc
/-- sorted(d), the keys texts -/
theorem cr_sortedDK (hc : X.calm = true) : CallR X (.builtin "sorted") (fun xs H Q => ∃ (a : Addr) (f : Wd → V) (ks : List Wd), xs = [.ref a] ∧ Rd H a (.dK (entK f ks)) ∧ ks.Nodup ∧ ks.length ≤ 4000 ∧
    ∀ p, H p = none → Q (.ref p) (upd H p (.lst (((asc ks).map mkS).map .str)))) := by
  intro pins s σ H xs us Q I r q
  obtain ⟨a, f, kl, ex, hd, nd, hl4, q⟩ := q
  subst ex
  rw [Vals.ref1 r]
  obtain ⟨z, lo, vs, rel, dd⟩ := dk_rd I.hok hd
  obtain ⟨ep, hat⟩ := dd.dictAt
  generalize hkk : kl.map mkS = ks
  have hkeys : vs.map (·.1) = ks.map Sum.inr := by rw [← hkk]; exact rel.keys.symm.trans (entK_keys f kl)
  have hl : vs.length = ks.length := by
    have e := congrArg List.length hkeys
    rw [List.length_map, List.length_map] at e
    exact e
  have hl5 : ks.length ≤ 4000 := by rw [← hkk, List.length_map]; exact hl4
  have h16 : vs.length ≤ sizeLine := by rw [hl, sizeLine_eq]; omega
  refine Calls.call_function_entry PyProof.Rows.kind_sorted PyProof.Rows.plain_sorted PyProof.Rows.entry_sorted (PyProof.Rows.args_sorted1 _) ?_
  unfold Builtin.«sorted»
  refine wpAny_bind (m := checkCount "sorted" 1 1 _) (wpAny_pure ?_)
  refine wpAny_bind (PySem.W.kdu_collect (A := X.A.in1) (PySem.W.kdl_dict (knd := mixKind X.prog X.w) (kvs := vs) (ep := ep) lo) (I.ok.hd hc) hat h16 fun h' tk acc hk hacc => ?_)
  have hal : acc.toList.length = ks.length := by rw [Array.length_toList, hacc.1, hl]
  have hS : StrsAre acc.toList ks := strs_at hal fun j v e => by
    obtain ⟨k, x, e1, e2⟩ := hacc.2 j v (by rw [← Array.getElem?_toList]; exact e)
    have e3 : (vs.map (·.1))[j]? = some k := by rw [List.getElem?_map, e1]; all_goals rfl
    rw [hkeys, List.getElem?_map] at e3
    cases e4 : ks[j]? with
    | none => rw [e4] at e3; cases e3
    | some y =>
      rw [e4] at e3
      have e5 : Sum.inr y = k := Option.some.inj e3
      subst e5
      obtain ⟨t, ev⟩ := Value.isStrOf_shape (x := y) (v := v) e2
      exact ⟨y, t, rfl, ev⟩
  have I1 : Inv X pins σ H { s with heap := h', toks := tk } := I.kept hk
  have hz : acc.toList.length ≤ sizeLine := by rw [hal, sizeLine_eq]; omega
  refine sort_collected (s1 := { s with heap := h', toks := tk }) hS hz fun h2 p out c ys k2 hp hc2 y1 y2 y3 => ?_
  have e := sorted_is (by rw [hkk]; exact y2) y3 nd
  have len : (ys.map V.str).length ≤ sizeLine := by
    rw [List.length_map, y2.length_eq, sizeLine_eq]
    omega
  have new : ObjOk X.prog X.w (upd H p (.lst (ys.map V.str))) h2 p (.lst (ys.map .str)) := ⟨len, out, c, vals_of_strs y1, hc2⟩
  refine wpAny_pure ⟨_, rfl, laid_new (s' := { s with heap := h2, toks := tk }) I1 k2 rfl rfl hp new fun hn => ?_⟩
  rw [e]
  exact q p hn
end
end Vs

set_option Elab.async false
set_option linter.all false
set_option maxRecDepth 100000
set_option maxHeartbeats 4000000
namespace Vf
open PySem PySem.Spec PyProof.Rows L2 L2.Vx Vs Vm
abbrev sPairs : Stmt := top 12
abbrev sPieces : Stmt := top 13
/-- what is new since H -/
def New (H : Hp) : Addr → Prop := fun a => H a = none
theorem dt_same {H H' : Hp} {S : Addr → Prop} {v : V} {D : PyData} (h : Dt H S v D) (s : Same H H') : Dt H' S v D := h.mono (fun a o _ e => s a o e) fun _ _ x _ => x
theorem dt_new {H0 H1 H : Hp} {v : V} {D : PyData} (h : Dt H (New H1) v D) (s : Same H0 H1) : Dt H (New H0) v D := h.mono (fun _ _ _ e => e) fun _ _ x _ => s.free x
/-- in_pairs: a new tuple of pairs, ascending -/
def spPairs (K : PySem.W.Frag) : Sp := fun vs H Q _ => ∃ (d : Addr) (f : Wd → Int) (ks : List Wd), vs = [.ref d] ∧ H d = some (.dK (entK (fun p => .int (f p)) ks)) ∧ ks.Nodup ∧ ks.length ≤ 4000 ∧
  ∀ v H', Same H H' → Dt H' (New H) v (pairsD f (asc ks)) → Q v H'
/-- pieces_of -/
def piecesD (k : Nat) (z : Wd) : PyData := pairsD (fun p => (often k z p : Int)) (asc (wins k z))
def spPieces (K : PySem.W.Frag) : Sp := fun vs H Q _ => ∃ (k : Nat) (z : Wd), vs = [.int k, .str (mkS z)] ∧ 1 ≤ k ∧ k ≤ 1000000 ∧ z.length ≤ 4000 ∧
  ∀ v H', Same H H' → Dt H' (New H) v (piecesD k z) → Q v H'
structure TxtP (mg : Str → Option Value) : Prop where
  tuple : mg "tuple" = none
  sorted : mg "sorted" = none
  set : mg "set" = none
  range : mg "range" = none
  len : mg "len" = none
theorem cut_win {k i : Nat} {z : Wd} (h : i < z.length + 1 - k) : cutS (mkS z) (some (i : Int)) (some ((i : Int) + k)) = mkS (win k z i) := by
  have hl : (mkS z).length = z.length := mkS_length z
  unfold cutS
  rw [hl, mkS_cps]
  have e1 : HT.sIx z.length 0 (some (i : Int)) = min i z.length := HT.sIx_nat _ _ i
  have e2 : HT.sIx z.length z.length (some ((i : Int) + k)) = min (i + k) z.length := HT.sIx_nat _ _ (i + k)
  rw [e1, e2, Nat.min_eq_left (by omega : i ≤ z.length), Nat.min_eq_left (by omega : i + k ≤ z.length), Nat.add_sub_cancel_left]
  rfl
section
variable {P : Program} {w : World} {K : PySem.W.Frag} {mg : Str → Option Value} {base : Heap}
theorem scPairs : FnScope ["numbers", "piece"] ["numbers"] (defScope sPairs) := ⟨rfl, rfl, rfl, by decide +kernel, rfl, by decide +kernel, by decide +kernel⟩
theorem scPieces : FnScope ["width", "text", "numbers", "start", "piece"] ["width", "text"] (defScope sPieces) := ⟨rfl, rfl, rfl, by decide +kernel, rfl, by decide +kernel, by decide +kernel⟩
theorem str_at {ks : List Wd} {i : Nat} {y : V} (h : ((ks.map mkS).map V.str)[i]? = some y) : ∃ p, ks[i]? = some p ∧ y = .str (mkS p) := by
  rw [List.getElem?_map, List.getElem?_map] at h
  cases e : ks[i]? with
  | none => rw [e] at h; cases h
  | some p => rw [e] at h; exact ⟨p, rfl, (Option.some.inj h).symm⟩
theorem ok_pairs {f : Addr} {fd : FuncData} (F : Fun K "in_pairs" "in_pairs" sPairs f fd) (T : TxtP mg) : FnOk P w K mg base CX0 1 f fd ["numbers"] (spPairs K) := by
  refine F.ok scPairs (fun vs H Q E h => ?_) (fun cdv A outer s H vs Q E hr h => ?_)
  · obtain ⟨d, g, ks, rfl, _⟩ := h
    rfl
  obtain ⟨d, g, ks, rfl, hd, nd, hl, q⟩ := h
  have hu := hu_of hr
  refine ⟨_, pss_one (ps_ret (pe_callTy call_tuple_of (by rfl) T.tuple (by decide +kernel) (pa_cons (pe_lc (own := [("piece", 1)]) (g := gName 1) (tt := tYes) rfl scPairs.nd
      (pi_list (pe_callB (cr_sortedTxAt (P := P) (w := w) rfl rfl rfl) (by rfl) T.sorted (by decide +kernel) (pa_cons (pe_callTy (cr_setDictAt (P := P) (w := w) rfl rfl rfl) (by rfl) T.set (by decide +kernel) (pa_cons (pv 0) pa_nil)) pa_nil)))
      (blkOk_by (N := ["numbers", "piece"]) (sc := defScope sPairs) (by decide +kernel)) (fun _ _ _ _ _ => pg_name (i := 1) scPairs.nd rfl (Or.inl rfl)) (fun _ _ _ _ _ => pts_nil)
      (fun _ _ _ _ _ => by exact pe_tup (pa_cons (pv 1) (pa_cons (pe_dget hu (pv 0) (pv 1) (fun _ _ => rfl)) pa_nil)))) pa_nil))), ?_⟩
  refine ⟨_, rfl, d, _, ks, rfl, .inl hd, nd, hl, fun p l hp hpl => ?_⟩
  have s1 := same_new hp (SetTxO P w p l)
  refine ⟨p, l, ks, rfl, upd_same, hpl, nd, hl, fun u hu' => ?_⟩
  have s2 := s1.trans (same_new hu' (.lst (((asc ks).map mkS).map .str)))
  have eu : upd (upd H p (SetTxO P w p l)) u (.lst (((asc ks).map mkS).map .str)) u = some (.lst (((asc ks).map mkS).map .str)) := upd_same
  have ed := s2 _ _ hd
  generalize upd (upd H p (SetTxO P w p l)) u (.lst (((asc ks).map mkS).map .str)) = H1 at s2 eu ed ⊢
  refine ⟨u, rfl, ⟨_, SqL.of eu⟩, fun D hD => ?_⟩
  have hD0 := s2.free hD
  have la := asc_length_le ks
  refine lc_it (walk_list (xs := ((asc ks).map mkS).map .str)) (fun i H' => ∃ vs, H' D = some (.lst vs) ∧ vs.length = i ∧ DtAll H' (fun a => H1 a = none ∧ a ≠ D) vs (((asc ks).take i).map (pairD g)) ∧ Same H1 H')
    ⟨[], upd_same, rfl, .nil, same_new hD _⟩ (fun i H' _ ⟨_, _, _, _, s⟩ => s.seq (SqL.of eu)) ?_ ?_
  · rintro i x H2 H3 hi ⟨vs, k1, k2, k3, k4⟩ ⟨rfl, hx⟩
    obtain ⟨y, hy, rfl⟩ := str_at hx
    have hyk : y ∈ ks := mem_asc.mp (List.mem_of_getElem? hy)
    refine ⟨rfl, _, rfl, _, rfl, _, rfl, d, _, rfl, get_ent (k4 _ _ ed) hyk, (by show 2 ≤ sizeLine; decide), fun t ht => ?_⟩
    have htD : t ≠ D := (ne_of_none k1 ht).symm
    have hil : i < (asc ks).length := by rw [List.length_map, List.length_map] at hi; exact hi
    have ht1 : H1 t = none := k4.free ht
    refine ⟨_, by rw [upd_ne htD.symm]; exact k1, (by rw [k2, sizeLine_eq]; omega), vs ++ [.ref t], upd_same, by rw [List.length_append, k2]; rfl, ?_, fun b o e => ?_⟩
    · rw [List.take_add_one, hy, List.map_append]
      exact dtAll_snoc k3 (fun a z => z.2) ht ⟨ht1, htD⟩ (.tup (xs := [.str (mkS y), .int (g y)]) (by rw [upd_ne htD]; exact upd_same) ⟨ht1, htD⟩ (.cons (.flat (show FlatD (.str (mkS y)) (.str (mkS y)) from rfl)) (.cons (.flat (show FlatD (.int (g y)) (.int (g y)) from rfl)) .nil)))
    · rw [upd_ne (ne_of_none e hD)]
      exact same_new ht _ _ _ (k4 b o e)
  · rintro H2 ⟨vs, k1, k2, k3, k4⟩
    rw [List.length_map, List.length_map, List.take_length] at k3
    refine ⟨D, _, rfl, .inl ⟨SqL.of k1, fun t ht => ?_⟩⟩
    have s3 := same_new ht (.tup vs)
    refine q _ _ ((s2.trans k4).trans s3) (.tup upd_same ((s2.trans k4).free ht) (k3.mono (fun a o _ e => s3 a o e) fun a o sa _ => s2.free sa.1))
theorem ok_pieces {f fA : Addr} {fd fdA : FuncData} (F : Fun K "pieces_of" "pieces_of" sPieces f fd) (T : TxtP mg)
    (GA : FnOk P w K mg base CX0 1 fA fdA ["numbers"] (spPairs K)) (bA : Binds K fdA ["numbers"] []) (kA : PySem.W.keepIn K (.ref fA) = true) (mA : mg "in_pairs" = some (.ref fA)) :
    FnOk P w K mg base CX0 2 f fd ["width", "text"] (spPieces K) := by
  refine F.ok scPieces (fun vs H Q E h => ?_) (fun cdv A outer s H vs Q E hr h => ?_)
  · obtain ⟨k, z, rfl, _⟩ := h
    rfl
  obtain ⟨k, z, rfl, hk1, hk2, hz, q⟩ := h
  have hu := hu_of hr
  refine ⟨_, pss_cons (ps_set (i := 2) scPieces.nd rfl (Or.inl rfl) pe_dnewK)
    (pss_cons (ps_for PassesOwn.never rfl (pi_range1 rfl T.range (pa_cons (pe_op op_add (pe_op op_sub (pe_callB call_len_str (by rfl) T.len PySem.boot_len (pa_cons (pv 1) pa_nil)) (pv 0)) pe_int) pa_nil)) (pg_name (i := 3) scPieces.nd rfl (Or.inl rfl))
      (pss_cons (ps_set (i := 4) scPieces.nd rfl (Or.inl rfl) (pe_slice sl_str (pv 1) (po_some (pv 3)) (po_some (pe_op op_add (pv 3) (pv 0)))))
      (pss_one (ps_dput hu (pv 2) (pv 4) (pe_op op_add (pe_dget2 hu (pv 2) (pv 4) pe_int ⟨rfl, rfl, rfl, rfl⟩) pe_int) rfl))))
    (pss_one (ps_ret (pe_call GA hr rfl mA kA bA .nil pass0 (pa_cons (pv 2) pa_nil))))), ?_⟩
  intro d hd
  have hlz : (mkS z).length = z.length := mkS_length z
  have hz16 : (mkS z).length ≤ sizeLine := by rw [hlz, sizeLine_eq]; omega
  refine ⟨_, rfl, _, rfl, hz16, _, rfl, _, _, rfl, rfl, _, _, rfl, rfl, _, rfl, by rw [hlz]; omega, by rw [hlz]; omega, ?_⟩
  have hn : ((((mkS z).length : Nat) : Int) - k + 1).toNat = z.length + 1 - k := by rw [hlz]; omega
  rw [hn]
  refine for_range (lo := 0) (n := z.length + 1 - k) (fun i σ H' => ∃ (v3 v4 : Option V) (ks : List Wd), σ = [some (.int k), some (.str (mkS z)), some (.ref d), v3, v4] ∧ ks.Nodup ∧ (∀ p, p ∈ ks ↔ p ∈ (wins k z).take i) ∧ ks.length ≤ i ∧
      H' d = some (.dK (entK (fun p => .int (upto k z p i : Nat)) ks)) ∧ Same H H') ⟨none, none, [], rfl, List.nodup_nil, fun p => by simp, Nat.le_refl _, upd_same, same_new hd _⟩ ?_ ?_
  · rintro i σ H1 hi ⟨v3, v4, ks, rfl, nd, mem, hl, hd1, s1⟩
    refine ⟨_, rfl, _, rfl, _, rfl, _, rfl, _, rfl, _, _, rfl, rfl, _, rfl, _, rfl, hz16, ?_⟩
    rw [show ((0 : Int) + (i : Nat)) = (i : Nat) from Int.zero_add _, cut_win hi]
    refine ⟨_, rfl, d, rfl, .inl ⟨_, .inl hd1⟩, _, rfl, _, DGet.k (k := kS (win k z i)) hd1, ?_⟩
    rw [getD_ent (f := fun p => V.int (upto k z p i : Nat)) (v := .int 0) fun c => by rw [upto_zero fun x => c ((mem _).mpr x)]; rfl]
    refine ⟨_, _, rfl, rfl, _, rfl, _, rfl, d, _, rfl, DPut.k (k := kS (win k z i)) hd1 (by rw [entK_length, sizeLine_eq]; omega), ?_⟩
    refine ⟨_, _, more ks (win k z i), rfl, more_nodup nd _, fun p => ?_, Nat.le_trans (more_length _ _) (Nat.succ_le_succ hl), ?_, fun b o e => ?_⟩
    · rw [mem_more, mem_take_succ hi, mem p]
    · rw [upd_same, putK_ent]
      refine congrArg (fun x => some (HO.dK x)) (entK_congr fun p _ => ?_)
      unfold at'
      by_cases c : p = win k z i
      · subst c
        rw [if_pos rfl, upto_hit hi rfl]
        rfl
      · rw [if_neg c, upto_miss hi c]
    · rw [upd_ne (ne_of_none e hd)]
      exact s1 b o e
  · rintro σ H1 ⟨v3, v4, ks, rfl, nd, mem, hl, hd1, s1⟩
    have e0 : (wins k z).take (z.length + 1 - k) = wins k z := List.take_of_length_le (by rw [wins_length]; exact Nat.le_refl _)
    rw [e0] at mem
    refine ⟨_, rfl, d, _, ks, rfl, hd1, nd, by omega, fun v H2 s2 hv => ?_⟩
    refine q v H2 (s1.trans s2) ?_
    unfold piecesD
    rw [← asc_congr mem]
    have e1 : (fun p => ((upto k z p (z.length + 1 - k) : Nat) : Int)) = fun p => ((often k z p : Nat) : Int) := funext fun p => by rw [upto_all (Nat.le_refl _)]
    rw [← e1]
    exact dt_new hv s1
end
end Vf

set_option Elab.async false
set_option linter.all false
set_option maxRecDepth 100000
set_option maxHeartbeats 4000000
namespace Vm
open PySem PySem.Spec PyProof.Rows L2 L2.Vx
/-! ### texts: joined signs, so many times, slices, find -/
theorem glue0 : ∀ (l : List Str) (a : Array Nat), (l.foldl (fun acc p => acc ++ (#[] : Array Nat) ++ p.cps) a).toList = a.toList ++ l.flatMap (fun p => p.cps.toList)
  | [], a => by simp
  | p :: r, a => by
    rw [List.foldl_cons, glue0 r]
    simp
theorem join_cps (ys : List Str) : (PySem.Txt.join "" ys).cps.toList = ys.flatMap fun y => y.cps.toList := by
  show ((ys.drop 1).foldl (fun acc p => acc ++ (#[] : Array Nat) ++ p.cps) (ys.headD Str.empty).cps).toList = _
  rw [glue0]
  cases ys with
  | nil => rfl
  | cons y r => simp
theorem join_signs (us : Wd) : PySem.Txt.join "" (us.map fun c => mkS [c]) = mkS us := by
  rw [← mkS_of (PySem.Txt.join "" (us.map fun c => mkS [c])), join_cps]
  congr 1
  induction us with
  | nil => rfl
  | cons c r ih =>
    rw [List.map_cons, List.flatMap_cons, ih]
    rfl
theorem sum_signs : ∀ us : Wd, ((us.map fun c => mkS [c]).map (·.length)).sum = us.length
  | [] => rfl
  | c :: r => by
    rw [List.map_cons, List.map_cons, List.sum_cons, sum_signs r, List.length_cons]
    show 1 + r.length = _
    omega
theorem fold_rep (x : Array Nat) : ∀ (n : Nat) (a : Array Nat), ((List.replicate n x).foldl (· ++ ·) a).toList = a.toList ++ (List.replicate n x.toList).flatten
  | 0, a => by simp
  | n + 1, a => by
    rw [List.replicate_succ, List.foldl_cons, fold_rep x n, List.replicate_succ, List.flatten_cons]
    simp
/-- a word so many times -/
def times (n : Nat) (z : Wd) : Wd := (List.replicate n z).flatten
theorem times_length (n : Nat) (z : Wd) : (times n z).length = n * z.length := by
  unfold times
  rw [List.length_flatten, List.map_replicate, List.sum_replicate_nat]
theorem times_mem {n : Nat} {z : Wd} {c : Nat} (h : c ∈ times n z) : c ∈ z := by
  obtain ⟨l, hl, hc⟩ := List.mem_flatten.mp h
  rw [List.eq_of_mem_replicate hl] at hc
  exact hc
theorem mul_times (z : Wd) (n : Nat) : PySem.Txt.mul (mkS z) (n : Int) = mkS (times n z) := by
  unfold PySem.Txt.mul
  by_cases h0 : (n : Int) < 1
  · rw [if_pos h0]
    obtain rfl : n = 0 := by omega
    rfl
  · rw [if_neg h0]
    by_cases h1 : ((n : Int) == 1 || (mkS z).length == 0) = true
    · rw [if_pos h1]
      rcases Bool.or_eq_true_iff.mp h1 with e | e
      · obtain rfl : n = 1 := by
          have := eq_of_beq e
          omega
        simp [times]
      · have e2 : z.length = 0 := by
          have := eq_of_beq e
          rw [mkS_length] at this
          exact this
        obtain rfl : z = [] := List.length_eq_zero_iff.mp e2
        have e3 : times n [] = [] := List.length_eq_zero_iff.mp (by rw [times_length]; simp)
        rw [e3]
    · rw [if_neg h1]
      have e : (n : Int).toNat = n := by omega
      rw [e, ← mkS_of (⟨_⟩ : Str)]
      congr 1
      show ((List.replicate n (mkS z).cps).foldl (· ++ ·) #[]).toList = _
      rw [fold_rep, mkS_cps]
      rfl
theorem mulOk_of {z : Wd} {n : Nat} (h1 : z.length ≤ 4000) (h2 : n ≤ 4000) : MulOk (mkS z) (n : Int) := by
  unfold MulOk
  rw [mkS_length]
  have e : (n : Int).toNat = n := by omega
  rw [e]
  refine ⟨?_, fun h3 _ h5 => ?_, fun _ _ => ?_⟩
  · have a1 : ¬ (n : Int) < -(2 ^ 63 : Int) := by omega
    have a2 : ¬ (n : Int) ≥ 2 ^ 63 := by omega
    rw [decide_eq_false a1, decide_eq_false a2]
    rfl
  · have : (4000 : Int) ≤ (2 ^ 63 - 1) / n := by
      rw [Int.le_ediv_iff_mul_le (by omega)]
      omega
    omega
  · have : z.length * n ≤ 4000 * 4000 := Nat.mul_le_mul h1 h2
    unfold Builtin.Str.tooLong
    rw [decide_eq_false]
    rw [sizeLine_eq]
    omega
theorem cut_head {z : Wd} (n : Nat) : cutS (mkS z) none (some (n : Int)) = mkS (z.take n) := by
  unfold cutS
  rw [mkS_length, mkS_cps]
  have e1 : HT.sIx z.length 0 none = 0 := rfl
  have e2 : HT.sIx z.length z.length (some (n : Int)) = min n z.length := HT.sIx_nat _ _ n
  rw [e1, e2, List.drop_zero, Nat.sub_zero]
  show mkS (z.take (min n z.length)) = _
  congr 1
  rw [List.take_eq_take_iff]
  omega
/-- find from a place on -/
theorem at_win {k : Nat} {z p : Wd} (hp : p.length = k) (i : Nat) : StrLaws.At (mkS z) (mkS p) (mkS z).length i ↔ i < z.length + 1 - k ∧ win k z i = p := by
  unfold StrLaws.At
  rw [StrLaws.subAt_eq, mkS_length, mkS_length, mkS_cps, mkS_cps, hp, beq_iff_eq]
  constructor
  · rintro ⟨h1, h2⟩
    exact ⟨by omega, h2⟩
  · rintro ⟨h1, h2⟩
    exact ⟨by omega, h2⟩
theorem find3_win {k j : Nat} {z p : Wd} (hp : p.length = k) (hj : j ≤ z.length) :
    (PySem.Txt.find3 (mkS z) (mkS p) (j : Int) = -1 ∧ ∀ i, j ≤ i → i < z.length + 1 - k → win k z i ≠ p) ∨
    ∃ i : Nat, PySem.Txt.find3 (mkS z) (mkS p) (j : Int) = (i : Int) ∧ j ≤ i ∧ i < z.length + 1 - k ∧ win k z i = p ∧ ∀ i', j ≤ i' → i' < i → i' < z.length + 1 - k → win k z i' ≠ p := by
  have ef : fromIndex (mkS z).length (j : Int) = j := by
    rw [mkS_length]
    simp [fromIndex]
    try omega
  unfold PySem.Txt.find3
  rw [ef]
  rcases StrLaws.occ_head_from (mkS z) (mkS p) j 1 (Nat.le_refl 1) with ⟨h0, hn⟩ | ⟨i, r, h0, hlo, hk, hn⟩
  · rw [h0]
    exact .inl ⟨rfl, fun i h1 h2 e => hn i h1 ((at_win hp i).mpr ⟨h2, e⟩)⟩
  · rw [h0]
    obtain ⟨h2, e⟩ := (at_win hp i).mp hk
    exact .inr ⟨i, rfl, hlo, h2, e, fun i' h3 h4 h5 e' => hn i' h3 h4 ((at_win hp i').mpr ⟨h5, e'⟩)⟩
theorem find_win {k : Nat} {z p : Wd} (hp : p.length = k) :
    (PySem.Txt.find (mkS z) (mkS p) = -1 ∧ ∀ i, 0 ≤ i → i < z.length + 1 - k → win k z i ≠ p) ∨
    ∃ i : Nat, PySem.Txt.find (mkS z) (mkS p) = (i : Int) ∧ 0 ≤ i ∧ i < z.length + 1 - k ∧ win k z i = p ∧ ∀ i', 0 ≤ i' → i' < i → i' < z.length + 1 - k → win k z i' ≠ p := by
  rw [find_is_find3]
  exact find3_win (j := 0) hp (Nat.zero_le _)
/-- what the search has found so far -/
def Seen (k : Nat) (z p : Wd) (found at_ : Int) : Prop := (at_ = -1 ∧ found = (often k z p : Nat)) ∨ ∃ i : Nat, at_ = (i : Int) ∧ i < z.length + 1 - k ∧ win k z i = p ∧ found = (upto k z p i : Nat)
theorem seen_start {k : Nat} {z p : Wd} (hp : p.length = k) : Seen k z p 0 (PySem.Txt.find (mkS z) (mkS p)) := by
  have e0 : upto k z p 0 = 0 := rfl
  rcases find_win (z := z) hp with ⟨h, hn⟩ | ⟨i, h, _, h1, h2, h3⟩
  · refine .inl ⟨h, ?_⟩
    have e := upto_none (Nat.zero_le (z.length + 1 - k)) fun i a b c => hn i a c
    rw [upto_all (Nat.le_refl _), e0] at e
    rw [e]
    rfl
  · refine .inr ⟨i, h, h1, h2, ?_⟩
    rw [upto_none (Nat.zero_le i) h3, e0]
    rfl
theorem seen_next {k i : Nat} {z p : Wd} (hp : p.length = k) (hk : 1 ≤ k) (h1 : i < z.length + 1 - k) (h2 : win k z i = p) : Seen k z p ((upto k z p i : Nat) + 1) (PySem.Txt.find3 (mkS z) (mkS p) ((i : Int) + 1)) := by
  have e0 := upto_hit h1 h2
  have ej : ((i : Int) + 1) = ((i + 1 : Nat) : Int) := by omega
  rw [ej]
  rcases find3_win (z := z) (j := i + 1) hp (by omega) with ⟨h, hn⟩ | ⟨j, h, h0, h3, h4, h5⟩
  · refine .inl ⟨h, ?_⟩
    have e := upto_none (k := k) (z := z) (p := p) (a := i + 1) (b := z.length + 1 - k) (by omega) fun i' a b c => hn i' a c
    rw [upto_all (Nat.le_refl _), e0] at e
    rw [e]
    omega
  · refine .inr ⟨j, h, h3, h4, ?_⟩
    rw [upto_none h0 h5, e0]
    omega
end Vm

set_option Elab.async false
set_option linter.all false
set_option maxRecDepth 100000
set_option maxHeartbeats 4000000
namespace Vf
open PySem PySem.Spec PyProof.Rows L2 L2.Vx Vs
/-! ### calls by keyword alone; a text so many times -/
section
variable {X : Cx} {CX : CXT} {k : Nat} {f : Addr} {fd : FuncData} {ps ks : List Str} {sp : Sp} {E : XK} {x : Str} {p pos : Pos} {kws : List Keyword} {tk : TA} {g : List Value → List Value → List Value} {gV : List V → List V → List V}
def tCallK0 (sp : Sp) (gV : List V → List V → List V) (E : XK) (tk : TA) : TE := fun σ H Q => tk σ H fun zs H2 => sp (gV [] zs) H2 Q E
theorem pe_callK0 (F : FnOk X.prog X.w X.K X.mg X.base CX k f fd ps sp) (hr : Room k X.A) (hm : X.mg x = some (.ref f)) (hk : PySem.W.keepIn X.K (.ref f) = true) (hb : KBinds X.K fd ps ks g gV) (hx : Passes CX X E) (hkw : PK X kws tk)
    (hg : Gl X x := by rfl) (hall : (backToKw pos (keywordEach kws X.env)).all (·.1.isSome) = true := by rfl) (hks : (backToKw pos (keywordEach kws X.env)).filterMap (·.1) = ks := by rfl) (hdb : (x == ("__debug__" : Str)) = false := by decide)
    (hpl : ((backTo pos (starEach [] X.env)).any (·.1) || (backToKw pos (keywordEach kws X.env)).any (·.1.isNone)) = false := by rfl) : PE X (.Call (.Name x p) [] kws pos) (tCallK0 sp gV E tk) := by
  refine ⟨fun pins s σ H Q I h => ?_⟩
  refine wpAny_Call_Name_kw (ld_glob I hg hm ?_ hdb)
  refine PySem.W.callWith_KW0 (h₀ := X.base) I.ok.mod.kin hk hall (thn (hkw.run pos pins s σ H _ I h) fun ws s2 ⟨zs, H2, I2, rz, q2⟩ => ⟨I2.kIn, ?_⟩) hpl
  rw [hks]
  exact run_fnk F hr hb hx I2 .nil rz q2
theorem op_mul_str : OpR X (binaryOp .Mult) (fun x y H Q => ∃ a n, x = .str a ∧ y = .int n ∧ MulOk a n ∧ Q (.str (PySem.Txt.mul a n)) H) := by
  intro pins s σ H x y v u Q I rx ry h
  obtain ⟨a, n, rfl, rfl, ok, q⟩ := h
  obtain ⟨t, rfl⟩ := rx
  obtain ⟨t', rfl⟩ := ry
  exact SB.mul ok fun t' k => ⟨.str _, H, I.tok _, ⟨_, rfl⟩, q⟩
end
/-- by name, the last one first -/
def gRev {α : Type} : List α → List α → List α
  | [], ws => ws.reverse
  | _ :: _, _ => []
theorem vals_rev {vs : List V} {us : List Value} (r : Vals vs us) : Vals vs.reverse us.reverse := by
  induction r with
  | nil => exact .nil
  | cons h t ih =>
    rw [List.reverse_cons, List.reverse_cons]
    have app : ∀ {as : List V} {bs : List Value} {cs : List V} {ds : List Value}, Vals as bs → Vals cs ds → Vals (as ++ cs) (bs ++ ds) := by
      intro as bs cs ds a b
      induction a with
      | nil => exact b
      | cons h _ ih => exact .cons h ih
    exact app ih (.cons h .nil)
theorem gRev_vals {v1 v2 : List V} {u1 u2 : List Value} (r1 : Vals v1 u1) (r2 : Vals v2 u2) : Vals (gRev v1 v2) (gRev u1 u2) := by
  cases r1 with
  | nil => exact vals_rev r2
  | cons _ _ => exact .nil
end Vf

set_option Elab.async false
set_option linter.all false
set_option maxRecDepth 100000
set_option maxHeartbeats 4000000
namespace Vm
open PySem PySem.Spec PyProof.Rows L2 L2.Vx
/-! ### data that can be shown, and how long that is -/
structure Fit (b e : Nat) (D : PyData) : Prop where
  sh : D.showable = true
  len : D.shown.length ≤ b
  dep : D.depth ≤ e
theorem Fit.le {b e b' e' : Nat} {D : PyData} (h : Fit b e D) (h1 : b ≤ b') (h2 : e ≤ e') : Fit b' e' D := ⟨h.sh, Nat.le_trans h.len h1, Nat.le_trans h.dep h2⟩
theorem fit_str {z : Wd} {n : Nat} (h : ∀ c ∈ z, c < 1000) (hn : z.length ≤ n) : Fit (10 * n + 2) 0 (.str (mkS z)) := by
  refine ⟨rfl, ?_, by simp [PyData.depth]⟩
  show (PySem.reprText (mkS z)).length ≤ _
  have q := StrLaws.reprText_len (mkS z) fun c hc => by
    rw [mkS_cps] at hc
    exact Nat.lt_trans (h c hc) (by decide)
  rw [mkS_length] at q
  omega
theorem fit_int {n : Int} (h0 : 0 ≤ n) (h1 : n < 10 ^ 10) : Fit 10 0 (.int n) := by
  refine ⟨?_, ?_, by simp [PyData.depth]⟩
  · show decide (n.natAbs.log2 < 1920) = true
    refine decide_eq_true ?_
    have a : n.natAbs < 2 ^ 40 := Nat.lt_of_lt_of_le (show n.natAbs < 10 ^ 10 by omega) (by decide)
    by_cases c : n.natAbs = 0
    · rw [c]; decide
    · exact Nat.lt_trans ((Nat.log2_lt c).mpr a) (by decide)
  · exact toString_length_le h0 (by decide) h1
theorem fit_all {b e : Nat} : ∀ {ds : List PyData}, (∀ x ∈ ds, Fit b e x) → PyData.showableAll ds = true ∧ ((PyData.shownAll ds).map (·.length)).sum ≤ ds.length * b ∧ (PyData.shownAll ds).length = ds.length ∧ PyData.depthAll ds ≤ e
  | [], _ => ⟨rfl, by simp [PyData.shownAll], rfl, Nat.zero_le _⟩
  | x :: r, h => by
    obtain ⟨i1, i2, i3, i4⟩ := fit_all fun y hy => h y (List.mem_cons_of_mem _ hy)
    have hx := h x (List.mem_cons_self ..)
    have h2 := hx.len
    have h3 := hx.dep
    refine ⟨by simp only [PyData.showableAll, hx.sh, i1, Bool.and_self], ?_, ?_, ?_⟩
    · simp only [PyData.shownAll, List.map_cons, List.sum_cons, List.length_cons, Nat.add_mul, Nat.one_mul]
      omega
    · simp only [PyData.shownAll, List.length_cons, i3]
    · simp only [PyData.depthAll]
      exact Nat.max_le.mpr ⟨h3, i4⟩
theorem fit_tup {b e : Nat} {ds : List PyData} (h : ∀ x ∈ ds, Fit b e x) : Fit (ds.length * (b + 2) + 3) (e + 1) (.tuple ds) := by
  obtain ⟨i1, i2, i3, i4⟩ := fit_all h
  refine ⟨by simpa only [PyData.showable] using i1, ?_, by simp only [PyData.depth]; omega⟩
  simp only [PyData.shown]
  refine Nat.le_trans (tupleText_len_le _) ?_
  rw [i3, Nat.mul_add]
  omega
theorem fit_lst {b e : Nat} {ds : List PyData} (h : ∀ x ∈ ds, Fit b e x) : Fit (ds.length * (b + 2) + 3) (e + 1) (.list ds) := by
  obtain ⟨i1, i2, i3, i4⟩ := fit_all h
  refine ⟨by simpa only [PyData.showable] using i1, ?_, by simp only [PyData.depth]; omega⟩
  simp only [PyData.shown]
  refine Nat.le_trans (listText_len_le _) ?_
  rw [i3, Nat.mul_add]
  omega
/-- a tuple of pairs of words of at most n signs and numbers -/
theorem fit_pairs {f : Wd → Int} {l : List Wd} {n m : Nat} (h1 : ∀ p ∈ l, p.length ≤ n ∧ (∀ c ∈ p, c < 1000) ∧ 0 ≤ f p ∧ f p < 10 ^ 10) (hl : l.length ≤ m) (hn : n ≤ 100) : Fit (m * (2 * (10 * n + 14) + 5) + 3) 2 (pairsD f l) := by
  have one : ∀ x ∈ l.map (pairD f), Fit (2 * (10 * n + 14) + 3) 1 x := by
    intro x hx
    obtain ⟨p, hp, rfl⟩ := List.mem_map.mp hx
    obtain ⟨a1, a2, a3, a4⟩ := h1 p hp
    refine (fit_tup (b := 10 * n + 12) (e := 0) fun y hy => ?_).le (by simp) (Nat.le_refl _)
    rcases List.mem_cons.mp hy with rfl | hy
    · exact (fit_str a2 a1).le (by omega) (Nat.le_refl _)
    · rw [List.mem_singleton.mp hy]
      exact (fit_int a3 a4).le (by omega) (Nat.le_refl _)
  refine (fit_tup one).le ?_ (Nat.le_refl _)
  rw [List.length_map, show 2 * (10 * n + 14) + 3 + 2 = 2 * (10 * n + 14) + 5 by omega]
  have := Nat.mul_le_mul_right (2 * (10 * n + 14) + 5) hl
  omega
theorem Fit.shows {b e : Nat} {D : PyData} (h : Fit b e D) (h1 : b ≤ 1000000) (h2 : e ≤ 60) : Shows D := ⟨h.sh, Nat.le_trans h.len h1, Nat.le_trans h.dep h2⟩
end Vm
namespace Vf
open PySem PySem.Spec PyProof.Rows L2 L2.Vx
/-! ### a def that is called where repr is allowed, by one that is called so -/
section
variable {X : Cx} {k : Nat} {f : Addr} {fd : FuncData} {ps : List Str} {sp : Sp} {E : XK} {x : Str} {p pos : Pos} {ds : List Value} {dvs : List V} {t : TA} {e : Expr} {es : List Expr}
theorem run_fnG {pins : List (Addr × Obj)} {σ : L2.St} {H : Hp} {s : Shared} {Q : VK} {us : List Value} {vs : List V} (F : FnG X.prog X.w X.K X.mg X.base k f fd ps sp) (len : ∀ vs H Q E, sp vs H Q E → vs.length = ps.length) (hgd : X.A.guards = some []) (hr : Room k X.A)
    (hb : L2.Binds X.K fd ps ds) (hd : Vals dvs ds) (hx : Passes CX0 X E) (I : Inv X pins σ H s) (r : Vals vs us) (h : sp (vs ++ dvs) H Q E) : wpAny (model X.prog X.w) X.A (call (.ref f) us) (EP X pins σ Q) X.xe s := by
  have both : Vals (vs ++ dvs) (us ++ ds) := r.append hd
  have many : (us ++ ds).length = ps.length := by rw [← both.length]; exact len _ _ _ _ h
  refine wpAny_call (codeAny_mono (F.run X.A X.stack s H ⟨us, []⟩ (us ++ ds) (vs ++ dvs) Q E hr hgd I.env0 (hb s us I.kIn many) both h) fun res s' hq => ?_)
  match res, hq with
  | .error err, hq => exact hx pins σ H s err s' I hq
  | .ok (.ret u), hq => exact I.after hq
  | .ok .next, hq => exact False.elim hq
  | .ok .brk, hq => exact False.elim hq
  | .ok .cont, hq => exact False.elim hq
theorem pe_callG (F : FnG X.prog X.w X.K X.mg X.base k f fd ps sp) (len : ∀ vs H Q E, sp vs H Q E → vs.length = ps.length) (hgd : X.A.guards = some []) (hr : Room k X.A) (hg : Gl X x) (hm : X.mg x = some (.ref f)) (hk : PySem.W.keepIn X.K (.ref f) = true) (hb : L2.Binds X.K fd ps ds) (hd : Vals dvs ds) (hx : Passes CX0 X E)
    (ha : PA X (e :: es) t) (hdb : (x == ("__debug__" : Str)) = false := by decide) (he : starEach (e :: es) X.env = (false, eval e X.env) :: starEach es X.env := by rfl) (hpl : (backTo pos (starEach es X.env)).any (·.1) = false := by rfl) :
    PE X (.Call (.Name x p) (e :: es) [] pos) (tCall sp dvs E t) := by
  refine ⟨fun pins s σ H Q I h => wpAny_Call_Name_kw (ld_glob I hg hm ?_ hdb)⟩
  refine PySem.W.callWith_K (h₀ := X.base) I.ok.mod.kin hk (thn (ha.run pos pins s σ H _ I h) fun us s1 ⟨vs, H1, I1, r, q⟩ => ⟨I1.kIn, ?_⟩) he hpl
  exact run_fnG F len hgd hr hb hd hx I1 r q
end
end Vf

set_option linter.all false
namespace Vm
/-! ### tables of words and numbers -/
def tally (p : Wd) : List (Wd × Nat) → Nat
  | [] => 0
  | q :: r => (if q.1 = p then q.2 else 0) + tally p r
theorem tally_app (p : Wd) : ∀ (l m : List (Wd × Nat)), tally p (l ++ m) = tally p l + tally p m
  | [], m => by simp [tally]
  | q :: r, m => by
    show (if q.1 = p then q.2 else 0) + tally p (r ++ m) = _ + tally p r + tally p m
    rw [tally_app p r m]
    omega
theorem tally_zero {p : Wd} : ∀ {l : List (Wd × Nat)}, p ∉ l.map (·.1) → tally p l = 0
  | [], _ => rfl
  | q :: r, h => by
    rw [List.map_cons, List.mem_cons, not_or] at h
    show (if q.1 = p then q.2 else 0) + tally p r = 0
    rw [if_neg (fun e => h.1 e.symm), tally_zero h.2]
theorem tally_map {p : Wd} {f : Wd → Nat} : ∀ {l : List Wd}, l.Nodup → tally p (l.map fun q => (q, f q)) = if p ∈ l then f p else 0
  | [], _ => by simp [tally]
  | q :: r, h => by
    obtain ⟨h1, h2⟩ := List.nodup_cons.mp h
    show (if q = p then f q else 0) + tally p (r.map fun q => (q, f q)) = _
    rw [tally_map h2]
    by_cases e : q = p
    · subst e
      rw [if_pos rfl, if_neg h1, if_pos (List.mem_cons_self ..)]
      rfl
    · rw [if_neg e]
      have e' : ¬ p = q := fun z => e z.symm
      simp only [List.mem_cons, e', false_or, Nat.zero_add]
theorem asc_asc (l : List Wd) : asc (asc l) = asc l := asc_congr fun x => mem_asc
/-- the pieces with their numbers, as a table -/
def tab (k : Nat) (z : Wd) : List (Wd × Nat) := (asc (wins k z)).map fun p => (p, often k z p)
theorem tab_keys (k : Nat) (z : Wd) : (tab k z).map (·.1) = asc (wins k z) := by
  unfold tab
  rw [List.map_map]
  exact List.map_id _
theorem tally_tab (k : Nat) (z p : Wd) : tally p (tab k z) = often k z p := by
  unfold tab
  rw [tally_map (up_nodup (up_asc _))]
  split
  · rfl
  · rename_i h
    exact (List.count_eq_zero.mpr fun x => h (mem_asc.mpr x)).symm
theorem tab_length (k : Nat) (z : Wd) : (tab k z).length ≤ z.length + 1 - k := by
  unfold tab
  rw [List.length_map]
  exact Nat.le_trans (asc_length_le _) (Nat.le_of_eq (wins_length k z))
end Vm

set_option Elab.async false
set_option linter.all false
set_option maxRecDepth 100000
set_option maxHeartbeats 4000000
namespace Vf
open PySem PySem.Spec PyProof.Rows L2 L2.Vx Vs Vm
abbrev sSummed : Stmt := top 14
abbrev sEnded : Stmt := top 15
abbrev sView : Stmt := top 16
/-! ### data taken apart -/
theorem dt_tup {H : Hp} {S : Addr → Prop} {v : V} {ds : List PyData} (h : Dt H S v (.tuple ds)) : ∃ a xs, v = .ref a ∧ H a = some (.tup xs) ∧ S a ∧ DtAll H S xs ds := by
  cases h with
  | flat e => cases v <;> exact absurd e (by intro z; cases z)
  | tup e s r => exact ⟨_, _, rfl, e, s, r⟩
theorem dt_str {H : Hp} {S : Addr → Prop} {v : V} {x : Str} (h : Dt H S v (.str x)) : v = .str x := by
  cases h with
  | flat e =>
    cases v with
    | str y => cases (show PyData.str x = .str y from e); rfl
    | _ => exact absurd e (by intro z; cases z)
theorem dt_int {H : Hp} {S : Addr → Prop} {v : V} {n : Int} (h : Dt H S v (.int n)) : v = .int n := by
  cases h with
  | flat e =>
    cases v with
    | int y => cases (show PyData.int n = .int y from e); rfl
    | _ => exact absurd e (by intro z; cases z)
theorem dtA_len {H : Hp} {S : Addr → Prop} : ∀ {vs : List V} {ds : List PyData}, DtAll H S vs ds → vs.length = ds.length
  | _, _, .nil => rfl
  | _, _, .cons _ r => congrArg (· + 1) (dtA_len r)
theorem dtA_at {H : Hp} {S : Addr → Prop} : ∀ {vs : List V} {ds : List PyData}, DtAll H S vs ds → ∀ {i : Nat} {v : V}, vs[i]? = some v → ∃ d, ds[i]? = some d ∧ Dt H S v d
  | _, _, .cons h _, 0, _, e => ⟨_, rfl, (Option.some.inj e) ▸ h⟩
  | _, _, .cons _ r, _ + 1, _, e => dtA_at r (i := _) e
theorem dtA_one {H : Hp} {S : Addr → Prop} {vs : List V} {d : PyData} {ds : List PyData} (h : DtAll H S vs (d :: ds)) : ∃ v r, vs = v :: r ∧ Dt H S v d ∧ DtAll H S r ds := by
  cases h with
  | cons a b => exact ⟨_, _, rfl, a, b⟩
theorem dtA_nil {H : Hp} {S : Addr → Prop} {vs : List V} (h : DtAll H S vs []) : vs = [] := by
  cases h
  rfl
/-- a pair of a word and a number -/
theorem dt_pair {H : Hp} {S : Addr → Prop} {v : V} {p : Wd} {n : Int} (h : Dt H S v (.tuple [.str (mkS p), .int n])) : ∃ a, v = .ref a ∧ H a = some (.tup [.str (mkS p), .int n]) := by
  obtain ⟨a, xs, rfl, e, _, r⟩ := dt_tup h
  obtain ⟨v1, r1, rfl, h1, r⟩ := dtA_one r
  obtain ⟨v2, r2, rfl, h2, r⟩ := dtA_one r
  obtain rfl := dtA_nil r
  obtain rfl := dt_str h1
  obtain rfl := dt_int h2
  exact ⟨a, rfl, e⟩
/-- a table as data -/
abbrev prD (q : Wd × Nat) : PyData := .tuple [.str (mkS q.1), .int (q.2 : Nat)]
def tabD (L : List (Wd × Nat)) : PyData := .tuple (L.map prD)
theorem pairs_tab (k : Nat) (z : Wd) : piecesD k z = tabD (tab k z) := by
  unfold piecesD tabD tab pairsD
  rw [List.map_map]
  rfl
/-! ### tables put together -/
/-- the numbers of all tables together, no more than t -/
def sumD (t : Nat) (L : List (Wd × Nat)) : PyData := pairsD (fun p => ((min t (tally p L) : Nat) : Int)) (asc (L.map (·.1)))
def spSummed : Sp := fun vs H Q _ => ∃ (a : Addr) (t : Nat) (xs : List V) (Ls : List (List (Wd × Nat))) (S : Addr → Prop), vs = [.ref a, .int t] ∧ 1 ≤ t ∧ H a = some (.lst xs) ∧ DtAll H S xs (Ls.map tabD) ∧ Ls.flatten.length ≤ 4000 ∧
  ∀ v H', Same H H' → Dt H' (New H) v (sumD t Ls.flatten) → Q v H'
def spEnded : Sp := fun vs H Q _ => ∃ (k : Nat) (z : Wd), vs = [.int k, .str (mkS z)] ∧ 1 ≤ k ∧ k ≤ z.length + 1 ∧ z.length ≤ 4000 ∧ Q (.str (mkS (z.drop (z.length + 1 - k)))) H
/-- the view of a word -/
def viewD (k t : Nat) (z : Wd) : PyData := if z.length < k then .tuple [.str "short", .str (mkS z)] else .tuple [.str "long", .str (mkS (z.take (k - 1))), .str (mkS (z.drop (z.length + 1 - k))), sumD t (tab k z)]
def spView : Sp := fun vs H Q _ => ∃ (k t : Nat) (z : Wd), vs = [.int k, .int t, .str (mkS z)] ∧ 1 ≤ k ∧ k ≤ 1000 ∧ 1 ≤ t ∧ z.length ≤ 3000 ∧ ∀ v H', Same H H' → Dt H' (New H) v (viewD k t z) → Q v H'
theorem cut_tail {z : Wd} {n : Nat} (h : n ≤ z.length) : cutS (mkS z) (some (n : Int)) none = mkS (z.drop n) := by
  unfold cutS
  rw [mkS_length, mkS_cps]
  have e1 : HT.sIx z.length 0 (some (n : Int)) = min n z.length := HT.sIx_nat _ _ n
  have e2 : HT.sIx z.length z.length none = z.length := rfl
  rw [e1, e2, Nat.min_eq_left h]
  show mkS ((z.drop n).take (z.length - n)) = _
  congr 1
  exact List.take_of_length_le (by rw [List.length_drop]; exact Nat.le_refl _)
/-- what the dict of numbers holds behind the pairs L -/
def NumAt (t : Nat) (L : List (Wd × Nat)) (H : Hp) (d : Addr) : Prop := ∃ ks : List Wd, ks.Nodup ∧ (∀ p, p ∈ ks ↔ p ∈ L.map (·.1)) ∧ ks.length ≤ L.length ∧ H d = some (.dK (entK (fun p => .int (min t (tally p L) : Nat)) ks))
theorem NumAt.next {t : Nat} {L : List (Wd × Nat)} {q : Wd × Nat} {d : Addr} {f : Wd → V} {ks : List Wd} {H : Hp} (nd : ks.Nodup) (mem : ∀ p, p ∈ ks ↔ p ∈ L.map (·.1)) (hl : ks.length ≤ L.length) (hf : f = fun p => .int (min t (tally p L) : Nat)) {n : Int} (hn : n = (min t (tally q.1 (L ++ [q])) : Nat)) :
    NumAt t (L ++ [q]) (upd H d (.dK (putK (entK f ks) (kS q.1) (.int n)))) d := by
  refine ⟨more ks q.1, more_nodup nd _, fun p => ?_, by rw [List.length_append]; exact Nat.le_trans (more_length _ _) (Nat.succ_le_succ hl), ?_⟩
  · rw [mem_more, mem p, List.map_append, List.mem_append]
    simp
  · rw [upd_same, putK_ent]
    refine congrArg (fun x => some (HO.dK x)) (entK_congr fun p _ => ?_)
    unfold at'
    by_cases c : p = q.1
    · rw [if_pos c, hn, c]
    · rw [if_neg c, hf, tally_app]
      have e : tally p [q] = 0 := tally_zero (by simpa using c)
      rw [e, Nat.add_zero]
section
variable {P : Program} {w : World} {K : PySem.W.Frag} {mg : Str → Option Value} {base : Heap}
abbrev nSummed : List Str := ["tables", "top", "numbers", "pairs", "piece", "number", "total"]
theorem scSummed : FnScope nSummed ["tables", "top"] (defScope sSummed) := ⟨rfl, rfl, rfl, by decide +kernel, rfl, by decide +kernel, by decide +kernel⟩
theorem scEnded : FnScope ["width", "text"] ["width", "text"] (defScope sEnded) := ⟨rfl, rfl, rfl, by decide +kernel, rfl, by decide +kernel, by decide +kernel⟩
theorem scView : FnScope ["width", "top", "text"] ["width", "top", "text"] (defScope sView) := ⟨rfl, rfl, rfl, by decide +kernel, rfl, by decide +kernel, by decide +kernel⟩
theorem ok_ended {f : Addr} {fd : FuncData} (F : Fun K "ended_with" "ended_with" sEnded f fd) (T : TxtP mg) : FnOk P w K mg base CX0 1 f fd ["width", "text"] spEnded := by
  refine F.ok scEnded (fun vs H Q E h => ?_) (fun cdv A outer s H vs Q E hr h => ?_)
  · obtain ⟨k, z, rfl, _⟩ := h
    rfl
  obtain ⟨k, z, rfl, hk1, hk2, hz, q⟩ := h
  refine ⟨_, pss_one (ps_ret (pe_slice sl_str (pv 1) (po_some (pe_op op_add (pe_op op_sub (pe_callB call_len_str (by rfl) T.len PySem.boot_len (pa_cons (pv 1) pa_nil)) (pv 0)) pe_int)) po_none)), ?_⟩
  have hlz : (mkS z).length = z.length := mkS_length z
  have hz16 : (mkS z).length ≤ sizeLine := by rw [hlz, sizeLine_eq]; omega
  refine ⟨_, rfl, _, rfl, _, rfl, hz16, _, rfl, _, _, rfl, rfl, _, _, rfl, rfl, _, rfl, _, rfl, hz16, ?_⟩
  have e : (((mkS z).length : Nat) : Int) - k + 1 = ((z.length + 1 - k : Nat) : Int) := by rw [hlz]; omega
  rw [e, cut_tail (by omega)]
  exact q
theorem ok_summed {f fA : Addr} {fd fdA : FuncData} (F : Fun K "summed" "summed" sSummed f fd)
    (GA : FnOk P w K mg base CX0 1 fA fdA ["numbers"] (spPairs K)) (bA : Binds K fdA ["numbers"] []) (kA : PySem.W.keepIn K (.ref fA) = true) (mA : mg "in_pairs" = some (.ref fA)) :
    FnOk P w K mg base CX0 2 f fd ["tables", "top"] spSummed := by
  refine F.ok scSummed (fun vs H Q E h => ?_) (fun cdv A outer s H vs Q E hr h => ?_)
  · obtain ⟨a, t, xs, Ls, S, rfl, _⟩ := h
    rfl
  obtain ⟨a, t, xs, Ls, S, rfl, ht, ha, hxs, hl4, q⟩ := h
  have hu := hu_of hr
  refine ⟨_, pss_cons (ps_set (i := 2) scSummed.nd rfl (Or.inl rfl) pe_dnewK)
    (pss_cons (ps_for PassesOwn.never rfl (pi_list (pv 0)) (pg_name (i := 3) scSummed.nd rfl (Or.inl rfl))
      (pss_one (ps_for PassesOwn.never rfl (pi_tup (pv 3)) (pg_tup rfl (pgs_cons (pg_name (i := 4) scSummed.nd rfl (Or.inl rfl)) (pgs_cons (pg_name (i := 5) scSummed.nd rfl (Or.inl rfl)) pgs_nil)))
        (pss_cons (ps_set (i := 6) scSummed.nd rfl (Or.inl rfl) (pe_op op_add (pe_dget2 hu (pv 2) (pv 4) pe_int ⟨rfl, rfl, rfl, rfl⟩) (pv 5)))
        (pss_one (ps_dput hu (pv 2) (pv 4) (pe_ifExp (pt_cmpR op_lt (pv 6) (pv 1) (nomark _)) (pv 6) (pv 1)) rfl))))))
    (pss_one (ps_ret (pe_call GA hr rfl mA kA bA .nil pass0 (pa_cons (pv 2) pa_nil))))), ?_⟩
  intro d hd
  have hxl := dtA_len hxs
  rw [List.length_map] at hxl
  have s0 := same_new hd (.dK [])
  refine ⟨_, rfl, a, rfl, ⟨xs, SqL.of (s0 _ _ ha)⟩, for_list (K := K) (a := a) (xs := xs) (fun i σ H' => ∃ v3 v4 v5 v6, σ = [some (.ref a), some (.int t), some (.ref d), v3, v4, v5, v6] ∧ NumAt t (Ls.take i).flatten H' d ∧ Same H H')
    ⟨none, none, none, none, rfl, ⟨[], List.nodup_nil, (fun p => by simp), Nat.le_refl _, upd_same⟩, s0⟩ (fun i σ H' _ ⟨_, _, _, _, _, _, s⟩ => SqL.of (s _ _ ha)) ?_ ?_⟩
  · rintro i y σ H1 hi ⟨v3, v4, v5, v6, rfl, hN, s1⟩
    obtain ⟨D, hD, dy⟩ := dtA_at hxs hi
    rw [List.getElem?_map] at hD
    obtain ⟨L, hL, rfl⟩ := Option.map_eq_some_iff.mp hD
    obtain ⟨b, ys, rfl, hb, _, hys⟩ := dt_tup dy
    have hyl := dtA_len hys
    rw [List.length_map] at hyl
    have eT : (Ls.take (i + 1)).flatten = (Ls.take i).flatten ++ L := by
      rw [List.take_add_one, hL, List.flatten_append]
      simp
    have lenL : (Ls.take i).flatten.length + L.length ≤ 4000 := by
      have e2 : Ls.flatten = (Ls.take (i + 1)).flatten ++ (Ls.drop (i + 1)).flatten := by rw [← List.flatten_append, List.take_append_drop]
      rw [e2, eT, List.length_append, List.length_append] at hl4
      omega
    refine ⟨_, rfl, b, rfl, ⟨ys, SqT.of (s1 _ _ hb)⟩, for_tup (K := K) (a := b) (xs := ys) (fun j σ H' => ∃ v4 v5 v6, σ = [some (.ref a), some (.int t), some (.ref d), some (.ref b), v4, v5, v6] ∧ NumAt t ((Ls.take i).flatten ++ L.take j) H' d ∧ Same H H')
      ⟨v4, v5, v6, rfl, by rw [List.take_zero, List.append_nil]; exact hN, s1⟩ (fun j σ H' _ ⟨_, _, _, _, _, s⟩ => SqT.of (s _ _ hb)) ?_ ?_⟩
    · rintro j y σ H2 hj ⟨u4, u5, u6, rfl, ⟨ks, nd, mem, hl, hd2⟩, s2⟩
      obtain ⟨D, hD, dy⟩ := dtA_at hys hj
      rw [List.getElem?_map] at hD
      obtain ⟨qq, hq, rfl⟩ := Option.map_eq_some_iff.mp hD
      obtain ⟨p, n⟩ := qq
      obtain ⟨e, rfl, he⟩ := dt_pair dy
      have hjl : j < L.length := (List.getElem?_eq_some_iff.mp hq).1
      have lj : ((Ls.take i).flatten ++ L.take j).length ≤ 4000 := by
        rw [List.length_append, List.length_take]
        omega
      have eN : (Ls.take i).flatten ++ L.take (j + 1) = ((Ls.take i).flatten ++ L.take j) ++ [(p, n)] := by
        rw [List.take_add_one, hq, List.append_assoc]
        rfl
      rw [eN]
      generalize (Ls.take i).flatten ++ L.take j = M at mem hl hd2 lj ⊢
      refine ⟨e, _, rfl, SqT.of (s2 _ _ he), rfl, _, _, rfl, _, _, rfl, rfl, ?_⟩
      refine ⟨_, rfl, d, rfl, .inl ⟨_, .inl hd2⟩, _, rfl, _, DGet.k (k := kS p) hd2, ?_⟩
      have hg : (valV (entK (fun p => V.int (min t (tally p M) : Nat)) ks) (kS p)).getD (.int 0) = .int (min t (tally p M) : Nat) := getD_ent (f := fun p => V.int (min t (tally p M) : Nat)) fun c => by
        rw [tally_zero fun x => c ((mem _).mpr x), Nat.min_zero]
        rfl
      rw [hg]
      have hT : tally p (M ++ [(p, n)]) = tally p M + n := by
        rw [tally_app]
        show tally p M + ((if p = p then n else 0) + 0) = _
        rw [if_pos rfl]
        rfl
      refine ⟨_, rfl, _, _, rfl, rfl, _, rfl, _, rfl, _, _, rfl, rfl, _, rfl, ?_⟩
      have fin : ∀ m : Int, m = (min t (tally p (M ++ [(p, n)])) : Nat) → ∃ v4 v5 v6, [some (V.ref a), some (V.int t), some (V.ref d), some (V.ref b), some (V.str (mkS p)), some (V.int n), some (V.int ((min t (tally p M) : Nat) + n))] = [some (V.ref a), some (V.int t), some (V.ref d), some (V.ref b), v4, v5, v6] ∧
          NumAt t (M ++ [(p, n)]) (upd H2 d (.dK (putK (entK (fun p => V.int (min t (tally p M) : Nat)) ks) (kS p) (.int m)))) d ∧ Same H (upd H2 d (.dK (putK (entK (fun p => V.int (min t (tally p M) : Nat)) ks) (kS p) (.int m)))) := fun m hm => by
        refine ⟨_, _, _, rfl, NumAt.next (q := (p, n)) nd mem hl rfl hm, fun b' o e' => ?_⟩
        rw [upd_ne (ne_of_none e' hd)]
        exact s2 b' o e'
      refine ite2 (fun c => ?_) (fun c => ?_)
      · have c' := of_decide_eq_true c
        exact ⟨_, rfl, _, rfl, _, rfl, d, _, rfl, DPut.k (k := kS p) hd2 (by rw [entK_length, sizeLine_eq]; omega), fin _ (by rw [hT]; omega)⟩
      · have c' : ¬ _ := fun z => c (decide_eq_true z)
        exact ⟨_, rfl, _, rfl, _, rfl, d, _, rfl, DPut.k (k := kS p) hd2 (by rw [entK_length, sizeLine_eq]; omega), fin _ (by rw [hT]; omega)⟩
    · rintro σ H2 ⟨u4, u5, u6, rfl, hN2, s2⟩
      rw [hyl, List.take_length, ← eT] at hN2
      exact ⟨_, _, _, _, rfl, hN2, s2⟩
  · rintro σ H1 ⟨v3, v4, v5, v6, rfl, ⟨ks, nd, mem, hl, hd1⟩, s1⟩
    rw [hxl, List.take_length] at mem hl hd1
    refine ⟨_, rfl, d, _, ks, rfl, hd1, nd, by omega, fun v H2 s2 hv => ?_⟩
    refine q v H2 (s1.trans s2) ?_
    unfold sumD
    rw [← asc_congr mem]
    exact dt_new hv s1
end
end Vf

set_option Elab.async false
set_option linter.all false
set_option maxRecDepth 100000
set_option maxHeartbeats 4000000
namespace Vf
open PySem PySem.Spec PyProof.Rows L2 L2.Vx Vs Vm
/-! ### views, by their numbers -/
theorem sum_ext {t : Nat} {L L' : List (Wd × Nat)} (hk : ∀ p, p ∈ L.map (·.1) ↔ p ∈ L'.map (·.1)) (hv : ∀ p, min t (tally p L) = min t (tally p L')) : sumD t L = sumD t L' := by
  unfold sumD
  rw [asc_congr hk]
  refine congrArg (fun f => pairsD f _) (funext fun p => ?_)
  rw [hv p]
/-- the table of the cut numbers -/
def tabT (t : Nat) (L : List (Wd × Nat)) : List (Wd × Nat) := (asc (L.map (·.1))).map fun p => (p, min t (tally p L))
theorem sum_tab (t : Nat) (L : List (Wd × Nat)) : sumD t L = tabD (tabT t L) := by
  unfold sumD tabD tabT pairsD
  rw [List.map_map]
  rfl
theorem tabT_keys (t : Nat) (L : List (Wd × Nat)) : (tabT t L).map (·.1) = asc (L.map (·.1)) := by
  unfold tabT
  rw [List.map_map]
  exact List.map_id _
theorem tally_tabT (t : Nat) (L : List (Wd × Nat)) (p : Wd) : tally p (tabT t L) = min t (tally p L) := by
  unfold tabT
  rw [tally_map (up_nodup (up_asc _))]
  split
  · rfl
  · rename_i h
    rw [tally_zero fun x => h (mem_asc.mpr x), Nat.min_zero]
theorem tabT_length (t : Nat) (L : List (Wd × Nat)) : (tabT t L).length ≤ L.length := by
  unfold tabT
  rw [List.length_map]
  exact Nat.le_trans (asc_length_le _) (Nat.le_of_eq (List.length_map _))
theorem mkS_append (a b : Wd) : mkS a ++ mkS b = mkS (a ++ b) := by
  rw [← mkS_of (mkS a ++ mkS b)]
  congr 1
  show ((mkS a).cps ++ (mkS b).cps).toList = _
  rw [Array.toList_append, mkS_cps, mkS_cps]
theorem view_short {k t : Nat} {z : Wd} (h : z.length < k) : viewD k t z = .tuple [.str "short", .str (mkS z)] := if_pos h
theorem view_long {k t : Nat} {z : Wd} (h : ¬ z.length < k) : viewD k t z = .tuple [.str "long", .str (mkS (z.take (k - 1))), .str (mkS (z.drop (z.length + 1 - k))), sumD t (tab k z)] := if_neg h
theorem cnt_eq (k t : Nat) (z : Wd) : sumD t (tab k z) = pairsD (fun p => ((min t (often k z p) : Nat) : Int)) (asc (wins k z)) := by
  unfold sumD
  rw [tab_keys, asc_asc]
  exact congrArg (fun f => pairsD f _) (funext fun p => by rw [tally_tab])
theorem short_ne_long : decide (V.str "long" = V.str "short") = false := by decide +kernel
section
variable {P : Program} {w : World} {K : PySem.W.Frag} {mg : Str → Option Value} {base : Heap}
theorem ok_view {f fC fE fS : Addr} {fd fdC fdE fdS : FuncData} (F : Fun K "view_of" "view_of" sView f fd) (T : TxtP mg)
    (GC : FnOk P w K mg base CX0 2 fC fdC ["width", "text"] (spPieces K)) (bC : Binds K fdC ["width", "text"] []) (kC : PySem.W.keepIn K (.ref fC) = true) (mC : mg "pieces_of" = some (.ref fC))
    (GE : FnOk P w K mg base CX0 1 fE fdE ["width", "text"] spEnded) (bE : Binds K fdE ["width", "text"] []) (kE : PySem.W.keepIn K (.ref fE) = true) (mE : mg "ended_with" = some (.ref fE))
    (GS : FnOk P w K mg base CX0 2 fS fdS ["tables", "top"] spSummed) (bS : Binds K fdS ["tables", "top"] []) (kS' : PySem.W.keepIn K (.ref fS) = true) (mS : mg "summed" = some (.ref fS)) :
    FnOk P w K mg base CX0 3 f fd ["width", "top", "text"] spView := by
  refine F.ok scView (fun vs H Q E h => ?_) (fun cdv A outer s H vs Q E hr h => ?_)
  · obtain ⟨k, t, z, rfl, _⟩ := h
    rfl
  obtain ⟨k, t, z, rfl, hk1, hk2, ht, hz, q⟩ := h
  have hr1 : Room 1 _ := hr.mono (by decide)
  refine ⟨_, pss_cons (ps_if (pt_cmpR op_lt (pe_callB call_len_str (by rfl) T.len PySem.boot_len (pa_cons (pv 2) pa_nil)) (pv 0) (nomark _)) (pss_one (ps_ret (pe_tup (pa_cons pe_str (pa_cons (pv 2) pa_nil))))) pss_nil)
    (pss_one (ps_ret (pe_tup (pa_cons pe_str (pa_cons (pe_slice sl_str (pv 2) po_none (po_some (pe_op op_sub (pv 0) pe_int))) (pa_cons (pe_call GE hr1 rfl mE kE bE .nil pass0 (pa_cons (pv 0) (pa_cons (pv 2) pa_nil)))
      (pa_cons (pe_call GS hr rfl mS kS' bS .nil pass0 (pa_cons (pe_lst (pa_cons (pe_call GC hr rfl mC kC bC .nil pass0 (pa_cons (pv 0) (pa_cons (pv 2) pa_nil))) pa_nil)) (pa_cons (pv 1) pa_nil))) pa_nil))))))), ?_⟩
  have hlz : (mkS z).length = z.length := mkS_length z
  have hz16 : (mkS z).length ≤ sizeLine := by rw [hlz, sizeLine_eq]; omega
  refine ⟨_, rfl, _, rfl, hz16, _, rfl, _, _, rfl, rfl, _, rfl, ?_⟩
  refine ite2 (fun c => ?_) (fun c => ?_)
  · have c' : z.length < k := by have := of_decide_eq_true c; rw [hlz] at this; omega
    refine ⟨_, rfl, (by show 2 ≤ sizeLine; decide), fun u hu => q _ _ (same_new hu _) ?_⟩
    rw [view_short c']
    exact .tup upd_same hu (.cons (.flat (show FlatD (.str "short") (.str "short") from rfl)) (.cons (.flat (show FlatD (.str (mkS z)) (.str (mkS z)) from rfl)) .nil))
  · have c' : ¬ z.length < k := fun x => c (decide_eq_true (by rw [hlz]; omega))
    refine ⟨_, rfl, _, rfl, _, _, rfl, rfl, _, rfl, _, rfl, hz16, ?_⟩
    have e1 : (k : Int) - 1 = ((k - 1 : Nat) : Int) := by omega
    rw [e1, cut_head]
    refine ⟨_, rfl, _, rfl, k, z, rfl, hk1, by omega, by omega, ?_⟩
    refine ⟨_, rfl, _, rfl, k, z, rfl, hk1, by omega, by omega, fun v1 H1 s1 hv1 => ⟨(by show 1 ≤ sizeLine; decide), fun l hl => ?_⟩⟩
    have s2 := same_new hl (.lst [v1])
    have dv : DtAll (upd H1 l (.lst [v1])) (New H) [v1] ([tab k z].map tabD) := by
      rw [pairs_tab] at hv1
      exact .cons (dt_same hv1 s2) .nil
    have fl : [tab k z].flatten = tab k z := by simp
    have ll := tab_length k z
    refine ⟨_, rfl, l, t, [v1], [tab k z], New H, rfl, ht, upd_same, dv, by rw [fl]; omega, fun v2 H2 s3 hv2 => ⟨(by show 4 ≤ sizeLine; decide), fun u hu => ?_⟩⟩
    rw [fl] at hv2
    have s4 := (s1.trans s2).trans s3
    have s5 := same_new hu (.tup [.str "long", .str (mkS (z.take (k - 1))), .str (mkS (z.drop (z.length + 1 - k))), v2])
    refine q _ _ (s4.trans s5) ?_
    rw [view_long c']
    exact .tup upd_same (s4.free hu) (.cons (.flat (show FlatD (.str "long") (.str "long") from rfl)) (.cons (.flat (show FlatD (.str (mkS (z.take (k - 1)))) (.str (mkS (z.take (k - 1)))) from rfl)) (.cons (.flat (show FlatD (.str (mkS (z.drop (z.length + 1 - k)))) (.str (mkS (z.drop (z.length + 1 - k)))) from rfl))
      (.cons (dt_same (dt_new hv2 (s1.trans s2)) s5) .nil))))
end
end Vf

set_option Elab.async false
set_option linter.all false
set_option maxRecDepth 100000
set_option maxHeartbeats 4000000
namespace Vs
open PySem PySem.Spec PyProof.Rows L2 SrtO Vm
theorem strs_vals : ∀ {l : List Str} {its : List Value}, Vals (l.map V.str) its → StrsAre its l
  | [], its, h => by cases h; exact .nil
  | x :: l, its, h => by
    rw [List.map_cons] at h
    cases h with
    | cons r rr =>
      obtain ⟨t, rfl⟩ := r
      exact .cons _ _ (strs_vals rr)
section
variable {X : Cx}
/-- sorted(xs), texts, any number of them -/
theorem cr_sortedTL : CallR X (.builtin "sorted") (fun xs H Q => ∃ (a : Addr) (ks : List Wd), xs = [.ref a] ∧ SqL X.K H a ((ks.map mkS).map .str) ∧
    ∀ (ms : List Wd) p, ms.Perm ks → ms.Pairwise (fun x y => ¬ y < x) → H p = none → Q (.ref p) (upd H p (.lst ((ms.map mkS).map .str)))) := by
  intro pins s σ H vs us Q I r h
  obtain ⟨a, ks, rfl, hs, q⟩ := h
  obtain ⟨its, rv, hl, hz⟩ := I.list hs
  rw [Vals.ref1 r]
  have hi := strs_vals rv
  refine SrtO.sorted_ord SrtO.swo_text hl.isList (by rw [← rv.length]; exact hz) (fun h2 h₁ a' _ _ => SrtO.texts_sortable hi h2) fun out h1 h2 => ?_
  obtain ⟨k1, k2, k3⟩ := SrtO.texts_out hi h1 h2
  obtain ⟨ep, he'⟩ := PyProof.Rows.sortedAll_at s.heap its out.toArray
  have e : out.map strOf = ((out.map strOf).map fun y => y.cps.toList).map mkS := by
    rw [List.map_map, show (mkS ∘ fun y : Str => y.cps.toList) = id from funext fun y => mkS_of y, List.map_id]
  have pm : ((out.map strOf).map fun y => y.cps.toList).Perm ks := by
    have z := k2.map fun y : Str => y.cps.toList
    rw [List.map_map (l := ks)] at z
    have e2 : (fun y : Str => y.cps.toList) ∘ mkS = id := funext mkS_cps
    rw [e2, List.map_id] at z
    exact z
  have up : ((out.map strOf).map fun y => y.cps.toList).Pairwise (fun x y => ¬ y < x) := List.pairwise_map.mpr k3
  have hlen : ((out.map strOf).map V.str).length ≤ sizeLine := by
    rw [List.length_map, k2.length_eq]
    rw [List.length_map] at hz
    exact hz
  have fin := q _ (s.heap.objs.size + 1) pm up (I.hok.fresh (Nat.le_succ _))
  rw [← e] at fin
  exact ⟨.ref _, upd H (s.heap.objs.size + 1) (.lst ((out.map strOf).map V.str)), I.laid (t' := s.toks) (fun _ _ => PyProof.Rows.sortedAll_old) (Nat.le_succ _) ⟨hlen, out, ep, vals_of_strs k1, he'⟩, rfl, fin⟩
/-- z[::-1] -/
def tRevS (te : TE) : TE := fun σ H Q => te σ H fun x H1 => ∃ z : Wd, x = .str (mkS z) ∧ z.length ≤ sizeLine ∧ Q (.str (mkS z.reverse)) H1
theorem rev_idx (n : Nat) : Builtin.Str.strSliceIndices none none (-1) n = (List.range n).reverse := by
  have e : Builtin.Str.strSliceIndices none none (-1) n = sliceRange ((n : Int) - 1) (-1) (-1) := rfl
  rw [e, PySem.W.krv_sliceRange, PySem.W.krv_range]
theorem rev_text (z : Wd) : (⟨((Builtin.Str.strSliceIndices none none (-1) (mkS z).length).filterMap ((mkS z).cps[·]?)).toArray⟩ : Str) = mkS z.reverse := by
  rw [rev_idx, List.filterMap_reverse]
  have e := PySem.W.krv_all (mkS z).cps
  have e2 : (mkS z).length = (mkS z).cps.size := rfl
  rw [e2, e, mkS_cps]
  rfl
theorem pe_revS {e : Expr} {te : TE} {k : Nat} {p1 p2 p3 pos : Pos} (he : PE X e te) : PE X (.Subscript e (.Slice none none (some (.UnaryOp .USub (.Constant (.int 1) k p1) p2)) p3) pos) (tRevS te) := by
  refine ⟨fun pins s σ H Q I h => ?_⟩
  refine Subscript_ (thn (he.run pins s σ H _ I h) fun v s1 ⟨x, H1, I1, r1, q1⟩ => ?_)
  obtain ⟨z, ex, hx, q⟩ := q1
  subst ex
  obtain ⟨t, rfl⟩ := r1
  have hst : PO X (some (.UnaryOp .USub (.Constant (.int 1) k p1) p2)) (tPart (tUn (rU fun i => .int (-i)) (tC (.int 1)))) := po_some (pe_un un_neg pe_int)
  refine wpAny_Slice (thn (po_none.run pins s1 σ H1 (fun o H2 => o = none ∧ H2 = H1) I1 ⟨rfl, rfl⟩) fun vl s2 ⟨l, H2, I2, pl, el, e2⟩ => ?_)
  subst el e2
  refine thn (po_none.run pins s2 σ H2 (fun o H3 => o = none ∧ H3 = H2) I2 ⟨rfl, rfl⟩) fun vu s3 ⟨u, H3, I3, pu, eu, e3⟩ => ?_
  subst eu e3
  refine thn (hst.run pins s3 σ H3 (fun o H4 => o = some (-1) ∧ H4 = H3) I3 ⟨1, rfl, -1, rfl, rfl, rfl⟩) fun vs s4 ⟨o, H4, I4, ps, eo, e4⟩ => ?_
  subst eo e4
  have I5 : Inv X pins σ H4 { s4 with heap := s4.heap.push { cls := .type "slice", data := .fields #[vl, vu, vs] } } := I4.kept (t' := s4.toks) fun b ob q => Heap.get?_push_of_some _ q
  obtain ⟨l0, rfl, el0⟩ := IsPart.raw pl
  obtain ⟨u0, rfl, eu0⟩ := IsPart.raw pu
  obtain ⟨w0, rfl, ew0⟩ := IsPart.raw ps
  show wpAny (model X.prog X.w) X.A (subscriptTail e (.Slice none none (some (.UnaryOp .USub (.Constant (.int 1) k p1) p2)) p3) (.str (mkS z) t) (.ref s4.heap.objs.size)) (EP X pins σ Q) X.xe { s4 with heap := s4.heap.push { cls := .type "slice", data := .fields #[partValue l0, partValue u0, partValue w0] } }
  refine tail_any (ops := [.str (mkS z) t, .ref s4.heap.objs.size]) (typeIs_str _ _ _) (F.slot_str_getitem.lookup) ?_ (by with_unfolding_all rfl)
  obtain ⟨os, hos, hcs, hds⟩ := Heap.IsSliceOf.new s4.heap (partValue l0) (partValue u0) (partValue w0)
  refine wpAny_getItem_str_slice (l := l0) (u := u0) (st := w0) ⟨os, hos, hcs, hds⟩ (by rw [ew0]; rfl) ?_
  unfold sliceMade slicePicked
  rw [el0, eu0, ew0]
  rw [if_neg (by intro z; exact absurd z (by simp))]
  show Made.post (.str (⟨((Builtin.Str.strSliceIndices none none (-1) (mkS z).length).filterMap ((mkS z).cps[·]?)).toArray⟩ : Str)) (EP X pins σ Q) _
  rw [rev_text]
  refine ⟨by rw [mkS_length, List.length_reverse]; exact hx, .str _, H4, I5.tok _, ⟨_, rfl⟩, q⟩
end
end Vs

set_option Elab.async false
set_option linter.all false
set_option maxRecDepth 100000
set_option maxHeartbeats 4000000
namespace Vs
open PySem PySem.Spec PyProof.Rows L2 SrtO Vm
open PySem.Froz (SD sObj addTx tailTx sing TxOk)
section
variable {P : Program} {w : World} {A : Around} {E : Value → Shared → Prop} {s : Shared}
/-- the loop that puts the texts of a list in -/
theorem loop_txs {I : Addr} {fp wr : List Addr} {G : Array GenState → Array GenState → Prop} {n : Nat} {xs : List Str} {Pv : Nat → Value → Prop} {St : Nat → Shared → Prop} {R : Result → Shared → Prop}
    (W : WalksS P w A.in1 I fp wr G n Pv St) (S : Addr) (hSf : S ∉ fp) (hn : n = xs.length) (hb : n + 1 < scanBound) (hval : ∀ i v, Pv i v → ∃ k u, xs[i]? = some k ∧ v = .str k u) :
    ∀ (m i : Nat) (s : Shared), n - i = m → i ≤ n → St i s → (∃ D l, s.heap.get? S = some (sObj "set" D) ∧ Tx P w D l ∧ l.length ≤ i ∧ ∀ k, k ∈ l ↔ k ∈ xs.take i) →
      (∀ s' D l, Moved (S :: wr) G s s' → s'.heap.get? S = some (sObj "set" D) → Tx P w D l → l.length ≤ n → (∀ k, k ∈ l ↔ k ∈ xs) → R (.ok (.ret .none)) s') →
      codeAny (model P w) A (.builtin "set.update.loop" ⟨[.ref S, .ref I], []⟩) R s := by
  have hSw : S ∉ wr := fun h => hSf (W.sub _ h)
  have more : ∀ b ∈ wr, b ∈ S :: wr := fun b => List.mem_cons_of_mem _
  intro m
  induction m with
  | zero =>
    intro i s hm hi hst ⟨D, l, hS, F, hl, hmem⟩ hR
    obtain rfl : i = n := by omega
    refine codeAny_builtin PyProof.Rows.F.entry_set_update_loop ?_
    rw [Around.under_plainId PyProof.Rows.F.plain_set_update_loop _]
    refine wpAny_bind (W.done s _ _ hst fun s' mv => wpAny_pure (hR s' D l (mv.mono more) (mv.heap S _ hSw hS) F hl fun k => ?_))
    rw [hmem k, List.take_of_length_le (Nat.le_of_eq hn.symm)]
  | succ m ih =>
    intro i s hm hi hst ⟨D, l, hS, F, hl, hmem⟩ hR
    refine codeAny_builtin PyProof.Rows.F.entry_set_update_loop ?_
    rw [Around.under_plainId PyProof.Rows.F.plain_set_update_loop _]
    refine wpAny_bind (W.item i s _ _ (by omega) hst fun v s1 hP hst1 mv => ?_)
    obtain ⟨y, u, hp, rfl⟩ := hval i v hP
    have hS1 := mv.heap S _ hSw hS
    have hnx : ∀ k, k ∈ xs.take (i + 1) ↔ k ∈ l ∨ k = y := fun k => by
      rw [List.take_add_one, hp, List.mem_append, ← hmem k]
      simp
    refine wpAny_bind (wpAny_holding ?_)
    unfold setAdd
    refine wpAny_holding (wpAny_bind ((strKind P w).pyHash (k := y) (Froz.is_str _ _) ?_))
    by_cases hk : y ∈ l
    · refine add_old (s := { s1 with toks := s1.toks + 1 }) hS1 F.ok hk (by omega) ?_
      refine wpAny_pure ⟨plainId_quiet PyProof.Rows.F.plain_set_update_loop _, ih (i + 1) _ (by omega) (by omega) (W.frame _ s1 _ _ hst1 (Nat.le_succ _) fun b _ o e => e) ⟨D, l, hS1, F, by omega, fun k => ?_⟩ fun s2 D2 l2 mv2 hS2 F2 n2 h2 => ?_⟩
      · rw [hnx k]
        exact ⟨.inl, fun z => z.elim id fun z => z ▸ hk⟩
      · exact hR s2 D2 l2 (Moved.trans W.gtrans ((mv.mono more).then_heap (Nat.le_succ _) fun b o _ e => e) mv2) hS2 F2 n2 h2
    · refine Froz.add_x (s := { s1 with toks := s1.toks + 1 }) hS1 F.ok hk (by omega) ?_
      have hS2 : (s1.heap.update S (fun _ => sObj "set" (addTx (hashStr w y) (.str y u) D))).get? S = some (sObj "set" (addTx (hashStr w y) (.str y u) D)) := Froz.get_upd _ hS1 rfl
      have other : ∀ b o, b ≠ S → s1.heap.get? b = some o → (s1.heap.update S (fun _ => sObj "set" (addTx (hashStr w y) (.str y u) D))).get? b = some o := fun b o n e => (Heap.get?_update_other _ _ (Ne.symm n)).trans e
      refine wpAny_pure ⟨plainId_quiet PyProof.Rows.F.plain_set_update_loop _, ih (i + 1) _ (by omega) (by omega) (W.frame _ s1 _ _ hst1 (Nat.le_succ _) fun b hb' o e => other b o (fun z => hSf (z ▸ hb')) e) ⟨_, y :: l, hS2, F.add u hk, (by simp only [List.length_cons]; omega), fun k => ?_⟩ fun s2 D2 l2 mv2 hS3 F2 n2 h2 => ?_⟩
      · rw [hnx k, List.mem_cons]
        exact Or.comm
      · exact hR s2 D2 l2 (Moved.trans W.gtrans ((mv.mono more).then_heap (Nat.le_succ _) fun b o nb e => other b o (fun z => nb (z ▸ List.mem_cons_self ..)) e) mv2) hS3 F2 n2 h2
/-- set(list of texts) -/
theorem call_set_list {l : Addr} {items : Array Value} {xs : List Str} {Q : Value → Shared → Prop} (hh : A.handled = none) (hl : s.heap.IsList l items) (hx : StrsAre items.toList xs) (hb : xs.length + 1 < scanBound)
    (h : ∀ (s' : Shared) D m, (∀ b o, s.heap.get? b = some o → s'.heap.get? b = some o) → s'.gens = s.gens → s'.os = s.os → s'.heap.get? s.heap.objs.size = some (sObj "set" D) → Tx P w D m → m.length ≤ xs.length → (∀ k, k ∈ m ↔ k ∈ xs) → Q (.ref s.heap.objs.size) s') :
    wpAny (model P w) A (call (.type "set") [.ref l]) Q E s := by
  refine set_by_init fun R hR => ?_
  have hlen : items.size = xs.length := by
    have q := StrsAre.length hx
    rw [Array.length_toList] at q
    exact q
  have hS : (s.heap.push (sObj "set" (emptyD w))).get? s.heap.objs.size = some (sObj "set" (emptyD w)) := Heap.get?_push_size _ rfl
  have hold : ∀ b o, s.heap.get? b = some o → (s.heap.push (sObj "set" (emptyD w))).get? b = some o := fun b o e => Heap.get?_push_of_some _ e
  have hl1 : (s.heap.push (sObj "set" (emptyD w))).IsList l items := hl.push _
  have hls : l ≠ s.heap.objs.size := by
    obtain ⟨_, e, _⟩ := hl
    exact Nat.ne_of_lt (Heap.lt_size e)
  have t1 := F.sub_list_set
  have t2 := F.sub_list_frozenset
  have t3 : (Value.type "list" == Value.type "dict") = false := by decide
  have hty : Shared.TypeIs { s with heap := s.heap.push (sObj "set" (emptyD w)) } (.ref l) "list" := hl1.typeIs (s := { s with heap := s.heap.push (sObj "set" (emptyD w)) })
  generalize s.heap.push (sObj "set" (emptyD w)) = h1 at hS hold hl1 hty ⊢
  unfold Builtin.«set.__init__» noKeywords Builtin.Frozenset.updateFrom
  generalize hPI : pyIter = PI
  wp_walk
  subst hPI
  refine iter_any hl1 fun s2 e2 st hne => wpAny_bind (wpAny_runValue ?_)
  subst e2
  have hx1 : ∀ b u', h1.get? b = some u' → b ≠ h1.objs.size := fun b u' e => Nat.ne_of_lt (Heap.lt_size e)
  have hSf : s.heap.objs.size ∉ [h1.objs.size, l] := fun z => by
    rcases List.mem_cons.mp z with z | z
    · exact hx1 _ _ hS z
    · exact hls (List.mem_singleton.mp z).symm
  have hval : ∀ (i : Nat) (v : Value), items[i]? = some v → ∃ k u, xs[i]? = some k ∧ v = .str k u := fun i v hv => by
    have hi : i < xs.length := by rw [← hlen]; exact (Array.getElem?_eq_some_iff.mp hv).1
    obtain ⟨t, e⟩ := SS.strs_at hx i v (by rw [Array.getElem?_toList]; exact hv)
    refine ⟨xs[i], t, List.getElem?_eq_getElem hi, ?_⟩
    rw [e, List.getD_eq_getElem?_getD, List.getElem?_eq_getElem hi] <;> rfl
  refine loop_txs ((Walks.list (by simp [hh]) _ l hne items).toS) s.heap.objs.size hSf hlen (by rw [hlen]; exact hb) hval _ 0 _ rfl (Nat.zero_le _) st ⟨_, [], Heap.get?_push_of_some _ hS, tx_empty, Nat.le_refl _, fun k => by simp⟩ fun s2 D m mv hS2 F hm1 hm => ?_
  refine wpAny_pure (wpAny_pure (hR _ (h s2 D m (fun b o' e => ?_) mv.gens mv.os hS2 F (by rw [← hlen]; exact hm1) hm)))
  refine mv.heap b o' (fun z => ?_) (Heap.get?_push_of_some _ (hold b o' e))
  rcases List.mem_cons.mp z with z | z
  · rw [z] at e
    exact Nat.lt_irrefl _ (Heap.lt_size e)
  · exact hx1 _ _ (hold b o' e) (List.mem_singleton.mp z)
end
section
variable {X : Cx}
/-- set(xs), texts, then sorted -/
theorem cr_setListAt {P : Program} {w : World} (hc : X.calm = true) (eP : X.prog = P) (ew : X.w = w) : CallR X (.type "set") (fun xs H Q => ∃ (a : Addr) (ks : List Wd), xs = [.ref a] ∧ SqL X.K H a ((ks.map mkS).map .str) ∧ ks.length ≤ 4000 ∧
    ∀ p l (ms : List Wd), H p = none → l.Perm (ms.map mkS) → ms.Nodup → ms.length ≤ 4000 → (∀ k, k ∈ ms ↔ k ∈ ks) → Q (.ref p) (upd H p (SetTxO P w p l))) := by
  subst eP
  subst ew
  intro pins s σ H vs us Q I r h
  obtain ⟨a, ks, rfl, hs, hl, q⟩ := h
  obtain ⟨its, rv, hl0, hz⟩ := I.list hs
  rw [Vals.ref1 r]
  have hx := strs_vals rv
  refine call_set_list (I.ok.hd hc) hl0.isList (by simpa using hx) (by rw [List.length_map]; exact Nat.lt_of_le_of_lt (Nat.succ_le_succ hl) (by decide)) fun s' D l k g o hS F hn hm => ?_
  have em : ((l.map (fun y : Str => y.cps.toList)).map mkS) = l := by
    rw [List.map_map, show (mkS ∘ fun y : Str => y.cps.toList) = id from funext fun y => mkS_of y, List.map_id]
  refine laid_new I k g o (Nat.le_refl _) (setTxO_new ⟨D, hS, F⟩) fun hn' => q _ l (l.map fun y : Str => y.cps.toList) hn' (by rw [em]) ?_ ?_ fun x => ?_
  · refine List.Pairwise.map _ (fun a b n e => n ?_) F.nd
    rw [← mkS_of a, ← mkS_of b, e]
  · rw [List.length_map]
    rw [List.length_map] at hn
    omega
  · constructor
    · intro h
      obtain ⟨y, hy, rfl⟩ := List.mem_map.mp h
      obtain ⟨z, hz, e⟩ := List.mem_map.mp ((hm y).mp hy)
      rw [← e, mkS_cps]
      exact hz
    · intro h
      have h2 := (hm (mkS x)).mpr (List.mem_map_of_mem h)
      have h3 := List.mem_map_of_mem (f := fun y : Str => y.cps.toList) h2
      rw [mkS_cps] at h3
      exact h3
end
end Vs

set_option Elab.async false
set_option linter.all false
set_option maxRecDepth 100000
set_option maxHeartbeats 4000000
namespace Vd
open PySem PySem.Spec PyProof.Rows L2 L2.Vx Vm
/-! ### values as data: taken apart, asked for their kind -/
theorem dt_same {H H' : Hp} {S : Addr → Prop} {v : V} {D : PyData} (h : Dt H S v D) (s : Same H H') : Dt H' S v D := h.mono (fun a o _ e => s a o e) fun _ _ x _ => x
theorem dtA_same {H H' : Hp} {S : Addr → Prop} {vs : List V} {ds : List PyData} (h : DtAll H S vs ds) (s : Same H H') : DtAll H' S vs ds := h.mono (fun a o _ e => s a o e) fun _ _ x _ => x
theorem dt_any {H : Hp} {S : Addr → Prop} {v : V} {D : PyData} (h : Dt H S v D) : Dt H (fun _ => True) v D := h.mono (fun _ _ _ e => e) fun _ _ _ _ => trivial
theorem dt_tup {H : Hp} {S : Addr → Prop} {v : V} {ds : List PyData} (h : Dt H S v (.tuple ds)) : ∃ a xs, v = .ref a ∧ H a = some (.tup xs) ∧ S a ∧ DtAll H S xs ds := by
  cases h with
  | flat e => cases v <;> exact absurd e (by intro z; cases z)
  | tup e s r => exact ⟨_, _, rfl, e, s, r⟩
theorem dt_str {H : Hp} {S : Addr → Prop} {v : V} {x : Str} (h : Dt H S v (.str x)) : v = .str x := by
  cases h with
  | flat e =>
    cases v with
    | str y => cases (show PyData.str x = .str y from e); rfl
    | _ => exact absurd e (by intro z; cases z)
theorem dt_int {H : Hp} {S : Addr → Prop} {v : V} {n : Int} (h : Dt H S v (.int n)) : v = .int n := by
  cases h with
  | flat e =>
    cases v with
    | int y => cases (show PyData.int n = .int y from e); rfl
    | _ => exact absurd e (by intro z; cases z)
theorem dtA_len {H : Hp} {S : Addr → Prop} : ∀ {vs : List V} {ds : List PyData}, DtAll H S vs ds → vs.length = ds.length
  | _, _, .nil => rfl
  | _, _, .cons _ r => congrArg (· + 1) (dtA_len r)
theorem dtA_at {H : Hp} {S : Addr → Prop} : ∀ {vs : List V} {ds : List PyData}, DtAll H S vs ds → ∀ {i : Nat} {v : V}, vs[i]? = some v → ∃ d, ds[i]? = some d ∧ Dt H S v d
  | _, _, .cons h _, 0, _, e => ⟨_, rfl, (Option.some.inj e) ▸ h⟩
  | _, _, .cons _ r, _ + 1, _, e => dtA_at r (i := _) e
theorem dtA_one {H : Hp} {S : Addr → Prop} {vs : List V} {d : PyData} {ds : List PyData} (h : DtAll H S vs (d :: ds)) : ∃ v r, vs = v :: r ∧ Dt H S v d ∧ DtAll H S r ds := by
  cases h with
  | cons a b => exact ⟨_, _, rfl, a, b⟩
theorem dtA_nil {H : Hp} {S : Addr → Prop} {vs : List V} (h : DtAll H S vs []) : vs = [] := by
  cases h
  rfl
/-- all of them texts -/
def strD : PyData → Bool
  | .str _ => true
  | _ => false
def wdOf : PyData → Wd
  | .str x => x.cps.toList
  | _ => []
theorem dtA_strs {H : Hp} {S : Addr → Prop} : ∀ {vs : List V} {ds : List PyData}, DtAll H S vs ds → ds.all strD = true → vs = ((ds.map wdOf).map mkS).map .str
  | _, _, .nil, _ => rfl
  | _, _, .cons (d := d) h r, e => by
    rw [List.all_cons, Bool.and_eq_true] at e
    rw [dtA_strs r e.2]
    cases d with
    | str x =>
      rw [dt_str h]
      show V.str x :: _ = V.str (mkS x.cps.toList) :: _
      rw [mkS_of]
    | _ => exact absurd e.1 (by intro z; cases z)
def tyD : PyData → String
  | .none => "NoneType"
  | .bool _ => "bool"
  | .int _ => "int"
  | .str _ => "str"
  | .list _ => "list"
  | .tuple _ => "tuple"
  | .dict _ => "dict"
theorem dt_ty {K : PySem.W.Frag} {H : Hp} {S : Addr → Prop} {v : V} {D : PyData} (h : Dt H S v D) : TyX K H v (.type (tyD D)) := by
  cases h with
  | flat e =>
    cases v with
    | non => cases (show D = .none from e); exact .base .non
    | bl b => cases (show D = .bool b from e); exact .base (.bl b)
    | int i => cases (show D = .int i from e); exact .base (.int i)
    | str x => cases (show D = .str x from e); exact .base (.str x)
    | byt b => exact (show False from e).elim
    | flt b => exact (show False from e).elim
    | ref b => exact (show False from e).elim
    | ty b => exact (show False from e).elim
  | lst e _ _ => exact .base (.lst e)
  | tup e _ _ => exact .base (.tup e)
  | dct e _ _ => exact .base (.dK e)
/-- isinstance of such a value, one of four types -/
def isD (n : String) (D : PyData) : Bool := (n == "int" && tyD D == "bool") || tyD D == n
theorem kitTab : ∀ a ∈ ["NoneType", "bool", "int", "str", "list", "tuple", "dict"], ∀ n ∈ ["int", "bool", "str", "tuple"], kitB a n = some ((n == "int" && a == "bool") || a == n) := by decide +kernel
theorem tyD_mem (D : PyData) : tyD D ∈ ["NoneType", "bool", "int", "str", "list", "tuple", "dict"] := by
  cases D <;> simp [tyD]
theorem kit_D {K : PySem.W.Frag} (D : PyData) {n : String} (hn : n = "int" ∨ n = "bool" ∨ n = "str" ∨ n = "tuple") : PySem.W.kitOne K (.type (tyD D)) (.type n) = some (isD n D) :=
  kit_ty (kitTab _ (tyD_mem D) n (by rcases hn with rfl | rfl | rfl | rfl <;> simp))
theorem isD_str (D : PyData) : isD "str" D = strD D := by
  cases D with
  | str x => exact (by decide +kernel : (("str" == "int" && "str" == "bool") || "str" == "str") = true)
  | none => exact (by decide +kernel : (("str" == "int" && "NoneType" == "bool") || "NoneType" == "str") = false)
  | bool b => exact (by decide +kernel : (("str" == "int" && "bool" == "bool") || "bool" == "str") = false)
  | int b => exact (by decide +kernel : (("str" == "int" && "int" == "bool") || "int" == "str") = false)
  | list b => exact (by decide +kernel : (("str" == "int" && "list" == "bool") || "list" == "str") = false)
  | tuple b => exact (by decide +kernel : (("str" == "int" && "tuple" == "bool") || "tuple" == "str") = false)
  | dict b => exact (by decide +kernel : (("str" == "int" && "dict" == "bool") || "dict" == "str") = false)
theorem isD_tup (D : PyData) : isD "tuple" D = true ↔ ∃ ds, D = .tuple ds := by
  cases D with
  | tuple ds => exact ⟨fun _ => ⟨ds, rfl⟩, fun _ => by show (("tuple" == "int" && "tuple" == "bool") || "tuple" == "tuple") = true; decide +kernel⟩
  | none => exact ⟨fun z => absurd z (by show ¬ (("tuple" == "int" && "NoneType" == "bool") || "NoneType" == "tuple") = true; decide +kernel), fun ⟨_, e⟩ => by cases e⟩
  | bool b => exact ⟨fun z => absurd z (by show ¬ (("tuple" == "int" && "bool" == "bool") || "bool" == "tuple") = true; decide +kernel), fun ⟨_, e⟩ => by cases e⟩
  | int b => exact ⟨fun z => absurd z (by show ¬ (("tuple" == "int" && "int" == "bool") || "int" == "tuple") = true; decide +kernel), fun ⟨_, e⟩ => by cases e⟩
  | str b => exact ⟨fun z => absurd z (by show ¬ (("tuple" == "int" && "str" == "bool") || "str" == "tuple") = true; decide +kernel), fun ⟨_, e⟩ => by cases e⟩
  | list b => exact ⟨fun z => absurd z (by show ¬ (("tuple" == "int" && "list" == "bool") || "list" == "tuple") = true; decide +kernel), fun ⟨_, e⟩ => by cases e⟩
  | dict b => exact ⟨fun z => absurd z (by show ¬ (("tuple" == "int" && "dict" == "bool") || "dict" == "tuple") = true; decide +kernel), fun ⟨_, e⟩ => by cases e⟩
def isInt : PyData → Bool
  | .int _ => true
  | _ => false
/-! ### judges, as data -/
def textD (sg : Wd) : PyData → Bool
  | .str x => x.cps.toList.all fun c => decide (c ∈ sg)
  | _ => false
def wordDB (sg : Wd) (n : Int) (d : PyData) : Bool := textD sg d && decide (((wdOf d).length : Int) = n)
/-- each less than the next -/
def riseB {α : Type} (lt : α → α → Bool) (xs : List α) : Bool := (xs.zip (xs.drop 1)).all fun p => lt p.1 p.2
def ltW (x y : Wd) : Bool := decide (x < y)
def wordsB (sg : Wd) (n : Int) : PyData → Bool
  | .tuple ds => ds.all (wordDB sg n) && riseB ltW (ds.map wdOf)
  | _ => false
def ltP (x y : Wd) : Bool := decide (x.length < y.length) || (decide (x.length = y.length) && decide (x < y))
def shorterB (sg : Wd) (k : Int) : PyData → Bool
  | .tuple ds => ds.all (textD sg) && (ds.all (fun d => decide (((wdOf d).length : Int) < k)) && riseB ltP (ds.map wdOf))
  | _ => false
def judgeB (sg : Wd) : PyData → Bool
  | .tuple [.int k, s, f, l, p] => decide (1 ≤ k) && (shorterB sg k s && (wordsB sg (k - 1) f && (wordsB sg (k - 1) l && wordsB sg k p)))
  | _ => false
theorem text_str {sg : Wd} {d : PyData} (h : textD sg d = true) : strD d = true := by
  cases d with
  | str x => rfl
  | _ => exact absurd h (by intro z; cases z)
mutual
def wideD (n : Nat) : PyData → Prop
  | .tuple ds => ds.length ≤ n ∧ wideDs n ds
  | .list ds => ds.length ≤ n ∧ wideDs n ds
  | .str x => x.length ≤ n
  | _ => True
def wideDs (n : Nat) : List PyData → Prop
  | [] => True
  | d :: r => wideD n d ∧ wideDs n r
end
theorem wide_mem {n : Nat} : ∀ {ds : List PyData}, wideDs n ds → ∀ d ∈ ds, wideD n d
  | d :: r, h, e, he => by
    rcases List.mem_cons.mp he with rfl | he
    · exact h.1
    · exact wide_mem h.2 e he
end Vd

set_option Elab.async false
set_option linter.all false
set_option maxRecDepth 100000
set_option maxHeartbeats 4000000
namespace Vs
open PySem PySem.Spec PySem.Builtin PySem.Builtin.Str PyProof.Rows L2
/-! ### what is left of a text when all signs of another one are taken off its ends -/
theorem sub_size (x : Str) (lo hi : Nat) (h : hi ≤ x.length) : (strSub x lo hi).length = hi - lo := by
  show (x.cps.extract lo hi).size = hi - lo
  have : x.length = x.cps.size := rfl
  rw [Array.size_extract]
  omega
theorem strip_none (x a : Str) : (Txt.stripChars x a).length = 0 ↔ ∀ c ∈ x.cps.toList, c ∈ a.cps.toList := by
  have hn : x.cps.toList.length = x.length := by simp [Str.length]
  obtain ⟨h0, h1, h2⟩ := lo_facts a.cps.contains x
  obtain ⟨g0, g1, g2, _⟩ := hi_facts a.cps.contains x _ h0
  have e : (Txt.stripChars x a).length = stripHi a.cps.contains true x (stripLo a.cps.contains true x) - stripLo a.cps.contains true x := by
    unfold Txt.stripChars
    rw [stripBy_eq, sub_size _ _ _ g1]
  rw [e]
  have key : ∀ k, k < x.length → (x.cps.getD k 0 ∈ x.cps.toList) := fun k hk => by
    rw [← getD_list]
    have hk' : k < x.cps.toList.length := hn.symm ▸ hk
    rw [List.getD_eq_getElem?_getD, List.getElem?_eq_getElem hk']
    exact List.getElem_mem hk'
  constructor
  · intro z c hc
    obtain ⟨k, hk, rfl⟩ := List.mem_iff_getElem.mp hc
    have hg : a.cps.contains (x.cps.getD k 0) = true := by
      by_cases hlt : k < stripLo a.cps.contains true x
      · exact h1 k hlt
      · exact g2 k (by omega) (hn ▸ hk)
    rw [← getD_list, List.getD_eq_getElem?_getD, List.getElem?_eq_getElem hk] at hg
    simpa using hg
  · intro z
    have all : ∀ k, k < x.length → a.cps.contains (x.cps.getD k 0) = true := fun k hk => by
      have := z _ (key k hk)
      simpa using this
    rcases h2 with h | h
    · omega
    · by_cases hl : stripLo a.cps.contains true x < x.length
      · rw [all _ hl] at h
        cases h
      · omega
theorem strip_dec (x a : Str) : decide (V.str (Txt.stripChars x a) = V.str "") = x.cps.toList.all fun c => decide (c ∈ a.cps.toList) := by
  have h := strip_none x a
  by_cases z : ∀ c ∈ x.cps.toList, c ∈ a.cps.toList
  · have e : (Txt.stripChars x a) = "" := by
      have := h.mpr z
      revert this
      generalize Txt.stripChars x a = y
      intro this
      obtain ⟨l⟩ := y
      have : l = #[] := Array.eq_empty_of_size_eq_zero this
      subst this
      rfl
    rw [e, decide_eq_true rfl, eq_comm, List.all_eq_true]
    exact fun c hc => decide_eq_true (z c hc)
  · have e : ¬ V.str (Txt.stripChars x a) = V.str "" := fun q => z (h.mp (by
      have : Txt.stripChars x a = "" := V.str.inj q
      rw [this]
      rfl))
    rw [decide_eq_false e, eq_comm, List.all_eq_false]
    obtain ⟨c, hc⟩ := Classical.not_forall.mp z
    obtain ⟨hc1, hc2⟩ := Classical.not_imp.mp hc
    exact ⟨c, hc1, by simpa using hc2⟩
end Vs

set_option Elab.async false
set_option linter.all false
set_option maxRecDepth 100000
set_option maxHeartbeats 4000000
namespace L2
open PySem PySem.Spec PyProof.Rows
/-! ### len(o), o[i] of an object with an own __len__, __getitem__ -/
section
variable {X : Cx} {CX : CXT} {k : Nat} {f C : Addr} {fd : FuncData} {ps : List Str} {sp : Sp} {E : XK} {dvs : List V} {ds : List Value}
theorem run_in1 {pins : List (Addr × Obj)} {σ : St} {H : Hp} {s : Shared} {Q : VK} {us : List Value} {vs : List V} {E' : Value → Shared → Prop} (F : FnOk X.prog X.w X.K X.mg X.base CX k f fd ps sp) (hr : Room (k + 1) X.A) (hb : Binds X.K fd ps ds) (hd : Vals dvs ds) (hx : Passes CX X.nox E)
    (I : Inv X pins σ H s) (r : Vals vs us) (h : sp (vs ++ dvs) H Q E) : wpAny (model X.prog X.w) X.A.in1 (call (.ref f) us) (EP X pins σ Q) E' s := by
  have r2 : Vals (vs ++ dvs) (us ++ ds) := r.append hd
  have hl : (us ++ ds).length = ps.length := by rw [← r2.length]; exact F.len _ _ _ _ h
  refine wpAny_call (codeAny_mono (F.run X.A.in1 X.stack s H ⟨us, []⟩ (us ++ ds) (vs ++ dvs) Q E hr.in1 I.env0.in1 (hb s us I.kIn hl) r2 h) fun r s' hq => ?_)
  cases r with
  | error e => exact False.elim (hx pins σ H s e s' (I.wish _) hq)
  | ok fl =>
    cases fl with
    | ret u => exact I.after hq
    | next => exact False.elim hq
    | brk => exact False.elim hq
    | cont => exact False.elim hq
def rLenO (C : Addr) (sp : Sp) (dvs : List V) (E : XK) : List V → Hp → VK → Prop := fun xs H Q => ∃ a dx fs, xs = [.ref a] ∧ H a = some (.ins C dx fs) ∧ sp ([.ref a] ++ dvs) H (fun v H' => ∃ n : Int, v = .int n ∧ 0 ≤ n ∧ n < 2 ^ 63 ∧ Q (.int n) H') E
theorem call_lenO (hm : Meth X.K C "__len__" f) (F : FnOk X.prog X.w X.K X.mg X.base CX k f fd ps sp) (hr : Room (k + 1) X.A) (hb : Binds X.K fd ps ds) (hd : Vals dvs ds) (hx : Passes CX X.nox E) :
    CallR X (.builtin "len") (rLenO C sp dvs E) := by
  intro pins s σ H xs us Q I r h
  obtain ⟨a, dx, fs, rfl, ea, q⟩ := h
  cases r with
  | cons rv rn =>
    cases rn
    rename_i u
    obtain rfl : u = Value.ref a := rv
    obtain ⟨mA, O, _, _, _, _⟩ := ins_get I.hok ea
    obtain ⟨od, J, _⟩ := O.look
    have go := run_in1 (us := [.ref a]) (vs := [.ref a]) (E' := X.xe) F hr hb hd hx I (.cons rfl .nil) q
    refine Calls.call_function_entry kind_len plain_len entry_len (args_len1 _) ?_
    unfold Builtin.«len»
    refine wpAny_bind (m := oneArg "len" _) (wpAny_pure ?_)
    refine wpAny_bind (m := callSpecial? (.ref a) (Str.ofString "__len__")) (PySem.W.special_fn I.kIn J hm.at_ (beq_iff_eq.mp hm.fn) (wpAny_mono go (fun r s' hr => ?_) fun _ _ y => y))
    obtain ⟨v1, H1, I1, r1, n, rfl, h0, h1, q1⟩ := hr
    obtain ⟨t, rfl⟩ : ∃ t, r = Value.int n t := r1
    refine wpAny_bind (wpAny_holding (wpAny_pure ?_))
    refine wpAny_bind (wpAny_letGo ?_)
    show wpAny _ _ (if n < 0 then _ else _) _ _ _
    rw [if_neg (by omega)]
    show wpAny _ _ (if n ≥ 2 ^ 63 then _ else _) _ _ _
    rw [if_neg (by omega)]
    exact wpAny_bind (wpAny_mkInt (wpAny_pure ⟨_, rfl, V.int n, H1, I1.tok _, ⟨_, rfl⟩, q1⟩))
def rIxO (C : Addr) (sp : Sp) (dvs : List V) (E : XK) : R2 := fun x y H Q => ∃ a dx fs, x = .ref a ∧ H a = some (.ins C dx fs) ∧ sp ([x, y] ++ dvs) H Q E
theorem pe_ixO {a b : Expr} {ta tb : TE} {pos : Pos} (hm : Meth X.K C "__getitem__" f) (hf : PySem.W.fnIn X.K f = true) (F : FnOk X.prog X.w X.K X.mg X.base CX k f fd ps sp) (hr : Room (k + 1) X.A) (hb : Binds X.K fd ps ds) (hd : Vals dvs ds) (hx : Passes CX X.nox E)
    (ha : PE X a ta) (hi : PE X b tb) (hs : ∀ v u, subscripted b true v u = runValue (.builtin "lifetime.subscript" ⟨[v, u], []⟩)) : PE X (.Subscript a b pos) (tOp (rIxO C sp dvs E) ta tb) := by
  refine ⟨fun pins s σ H Q I h => ?_⟩
  refine Subscript_ (binT ha hi I h fun v u s2 x y H2 I2 rx ry q => ?_)
  obtain ⟨p, dx, fs, rfl, ea, q⟩ := q
  obtain rfl : v = Value.ref p := rx
  obtain ⟨mA, O, _, _, _, _⟩ := ins_get I2.hok ea
  obtain ⟨od, J, _⟩ := O.look
  have go := run_in1 (us := [.ref p, u]) (vs := [.ref p, y]) (E' := X.xe) F hr hb hd hx I2 (.cons rfl (.cons ry .nil)) q
  unfold PySem.W.fnIn at hf
  split at hf
  · rename_i e
    unfold subscriptTail getitemInPython
    refine wpAny_bind (wpAny_bind (wpAny_bind (J.type.here ((PySem.W.looks_findIn I2.kIn hm.at_).here ?_))))
    dsimp only
    refine wpAny_bind (wpAny_load (I2.kIn _ _ e) (wpAny_pure ?_))
    dsimp only
    rw [hs]
    refine wpAny_bind (wpAny_runValue (codeAny_builtin PySem.W.entry_sub ?_))
    unfold Builtin.«lifetime.subscript»
    refine wpAny_bind (PySem.W.special_fn I2.kIn J hm.at_ (beq_iff_eq.mp hm.fn) (wpAny_mono go (fun v s' z => ?_) fun _ _ z => z))
    refine wpAny_pure ?_
    show wpAny (model X.prog X.w) X.A (letTemporaryGo a (.ref p) v >>= fun _ => pure v) _ X.xe s'
    exact wpAny_bind (wpAny_letTemporaryGo (wpAny_pure z))
  · cases hf
end
end L2
namespace L2
open PySem PySem.Spec PyProof.Rows
/-! ### o.m(k = v, ..) -/
section
variable {X : Cx} {CX : CXT} {k : Nat} {f C : Addr} {fd : FuncData} {ps ks : List Str} {sp : Sp} {E : XK} {o : Expr} {m : Str} {apos pos : Pos} {kws : List Keyword} {ta : TE} {tk : TA} {g : List Value → List Value → List Value} {gV : List V → List V → List V}
def tMethK0 (C : Addr) (m : Str) (sp : Sp) (gV : List V → List V → List V) (E : XK) (ta : TE) (tk : TA) : TE := fun σ H Q => ta σ H fun x H1 => ∃ a dx fs, x = .ref a ∧ H1 a = some (.ins C dx fs) ∧ fs.lookup m = none ∧ tk σ H1 fun zs H2 => sp (gV [x] zs) H2 Q E
theorem pe_methK0 {pl : Sem Bool} (he : PE X o ta) (c : Cls X.K C) (hm : Meth X.K C m f) (F : FnOk X.prog X.w X.K X.mg X.base CX k f fd ps sp) (hr : Room k X.A) (hb : KBinds X.K fd ps ks g gV) (hx : Passes CX X E) (hkw : PK X kws tk)
    (hall : (backToKw pos (keywordEach kws X.env)).all (·.1.isSome) = true := by rfl) (hks : (backToKw pos (keywordEach kws X.env)).filterMap (·.1) = ks := by rfl)
    (hpl : ((backTo pos (starEach [] X.env)).any (·.1) || (backToKw pos (keywordEach kws X.env)).any (·.1.isNone)) = false := by rfl)
    (ht : eval (.Call (.Attribute o m apos) [] kws pos) X.env = (do
      let ov ← eval o X.env
      standAt apos.atName
      let (f, first) ← holding [ov] (getMethod ov m pl)
      callWith pos f first (backTo pos (starEach [] X.env)) (backToKw pos (keywordEach kws X.env))) := by rfl) :
    PE X (.Call (.Attribute o m apos) [] kws pos) (tMethK0 C m sp gV E ta tk) := by
  refine ⟨fun pins s σ H Q I h => ?_⟩
  refine PySem.W.methodCall_KW (pl := pl) (thn (he.run pins s σ H _ I h) fun u s1 ⟨x, H1, I1, rx, a, dx, fs, ex, ea, l, q⟩ => ?_) ht
  subst ex
  obtain rfl : u = Value.ref a := rx
  refine getmeth_ok I1 ea c hm l ?_
  refine PySem.W.callWith_KW0 (first := [.ref a]) (h₀ := X.base) I.ok.mod.kin hm.kp hall (thn (hkw.run pos pins s1 σ H1 _ I1 q) fun ws s2 ⟨zs, H2, I2, rz, q2⟩ => ⟨I2.kIn, ?_⟩) hpl
  rw [hks]
  exact run_fnk (us := [.ref a]) (vs := [.ref a]) F hr hb hx I2 (.cons rfl .nil) rz q2
end
end L2

set_option Elab.async false
set_option linter.all false
set_option maxRecDepth 100000
set_option maxHeartbeats 4000000
namespace Vf
open PySem PySem.Spec PyProof.Rows L2 L2.Vx Vs Vm Vd
abbrev sWhole : Stmt := top 6
abbrev sState : Stmt := top 8
abbrev sText : Stmt := top 10
/-! ### what a value is, by the program -/
def spAsk (g : PyData → Bool) : Sp := fun vs H Q _ => ∃ (v : V) (D : PyData) (S : Addr → Prop), vs = [v] ∧ Dt H S v D ∧ ∀ H', Same H H' → Q (.bl (g D)) H'
def spText : Sp := fun vs H Q _ => ∃ (sg : Wd) (v : V) (D : PyData) (S : Addr → Prop), vs = [.str (mkS sg), v] ∧ Dt H S v D ∧ wideD 100000 D ∧ ∀ H', Same H H' → Q (.bl (textD sg D)) H'
/-- an integer from 0 on, less than n -/
def stateB (n : Int) : PyData → Bool
  | .int i => decide (0 ≤ i) && decide (i < n)
  | _ => false
def spState : Sp := fun vs H Q _ => ∃ (v : V) (D : PyData) (S : Addr → Prop) (n : Int), vs = [v, .int n] ∧ Dt H S v D ∧ ∀ H', Same H H' → Q (.bl (stateB n D)) H'
structure TxtI (mg : Str → Option Value) : Prop where
  isi : mg "isinstance" = none
  int : mg "int" = none
  bool : mg "bool" = none
  str : mg "str" = none
  len : mg "len" = none
/-- a goal that comes twice: shown once -/
theorem two_ways {R G : Prop} (f : R → G) (r : R) : G := f r
theorem two_heaps {R : Hp → Prop} {G : Prop} (A : Hp → Prop) (f : (∀ H', A H' → R H') → G) (r : ∀ H', A H' → R H') : G := f r
theorem if_fl {A B : Prop} {c : Bool} (e : c = false) (h : B) : if c = true then A else B := by
  rw [e]
  exact h
theorem if_tr {A B : Prop} {c : Bool} (e : c = true) (h : A) : if c = true then A else B := by
  rw [e]
  exact h
section
variable {P : Program} {w : World} {K : PySem.W.Frag} {mg : Str → Option Value} {base : Heap}
theorem scWhole : FnScope ["thing"] ["thing"] (defScope sWhole) := ⟨rfl, rfl, rfl, by decide +kernel, rfl, by decide +kernel, by decide +kernel⟩
theorem ok_whole {f : Addr} {fd : FuncData} (F : Fun K "is_whole" "is_whole" sWhole f fd) (T : TxtI mg) : FnOk P w K mg base CX0 1 f fd ["thing"] (spAsk isInt) := by
  refine F.ok scWhole (fun vs H Q E h => ?_) (fun cdv A outer s H vs Q E hr h => ?_)
  · obtain ⟨v, D, S, rfl, _⟩ := h
    rfl
  obtain ⟨v, D, S, rfl, hd, q⟩ := h
  refine ⟨_, pss_one (ps_ret (pe_and (pe_callB call_isi (by rfl) T.isi (by decide +kernel) (pa_cons (pv 0) (pa_cons (pe_bltn (v := .ty "int") (u := .type "int") (by rfl) T.int (by decide +kernel) rfl) pa_nil)))
      (pe_one (pe_not (pe_callB call_isi (by rfl) T.isi (by decide +kernel) (pa_cons (pv 0) (pa_cons (pe_bltn (v := .ty "bool") (u := .type "bool") (by rfl) T.bool (by decide +kernel) rfl) pa_nil))))))), ?_⟩
  have t := dt_ty (K := K) hd
  have q' := q H (Same.refl H)
  refine ⟨_, rfl, _, _, _, _, _, rfl, .ty _, t, kit_D D (.inl rfl), _, rfl, ?_⟩
  cases D <;> first
    | exact q'
    | exact ⟨_, rfl, _, _, _, _, _, rfl, .ty _, t, kit_D _ (.inr (.inl rfl)), _, rfl, q'⟩
theorem scState : FnScope ["thing", "many"] ["thing", "many"] (defScope sState) := ⟨rfl, rfl, rfl, by decide +kernel, rfl, by decide +kernel, by decide +kernel⟩
theorem ok_state {f fH : Addr} {fd fdH : FuncData} (F : Fun K "is_state" "is_state" sState f fd)
    (GH : FnOk P w K mg base CX0 1 fH fdH ["thing"] (spAsk isInt)) (bH : Binds K fdH ["thing"] []) (kH : PySem.W.keepIn K (.ref fH) = true) (mH : mg "is_whole" = some (.ref fH)) :
    FnOk P w K mg base CX0 2 f fd ["thing", "many"] spState := by
  refine F.ok scState (fun vs H Q E h => ?_) (fun cdv A outer s H vs Q E hr h => ?_)
  · obtain ⟨v, D, S, n, rfl, _⟩ := h
    rfl
  obtain ⟨v, D, S, n, rfl, hd, q⟩ := h
  refine ⟨_, pss_one (ps_ret (pe_and (pe_call GH hr rfl mH kH bH .nil pass0 (pa_cons (pv 0) pa_nil)) (pe_one (pe_chain op_le op_lt pe_int (pv 0) (pv 1))))), ?_⟩
  refine ⟨_, rfl, v, D, S, rfl, hd, fun H1 s1 => ⟨_, rfl, ?_⟩⟩
  have q' := q H1 s1
  cases D with
  | int i =>
    obtain rfl := Vd.dt_int hd
    refine if_tr rfl ⟨_, rfl, _, _, rfl, rfl, _, rfl, ?_⟩
    have e : stateB n (.int i) = (decide (0 ≤ i) && decide (i < n)) := rfl
    rw [e] at q'
    refine ite2 (fun c => ?_) (fun c => ?_)
    · refine ⟨_, rfl, _, _, rfl, rfl, ?_⟩
      rw [c, Bool.true_and] at q'
      exact q'
    · rw [Bool.eq_false_iff.mpr c, Bool.false_and] at q'
      exact q'
  | _ => exact q'
theorem scText : FnScope ["letters", "thing"] ["letters", "thing"] (defScope sText) := ⟨rfl, rfl, rfl, by decide +kernel, rfl, by decide +kernel, by decide +kernel⟩
theorem ok_text {f : Addr} {fd : FuncData} (F : Fun K "is_text" "is_text" sText f fd) (T : TxtI mg) : FnOk P w K mg base CX0 1 f fd ["letters", "thing"] spText := by
  refine F.ok scText (fun vs H Q E h => ?_) (fun cdv A outer s H vs Q E hr h => ?_)
  · obtain ⟨sg, v, D, S, rfl, _⟩ := h
    rfl
  obtain ⟨sg, v, D, S, rfl, hd, hw, q⟩ := h
  refine ⟨_, pss_one (ps_ret (pe_and (pe_callB call_isi (by rfl) T.isi (by decide +kernel) (pa_cons (pv 1) (pa_cons (pe_bltn (v := .ty "str") (u := .type "str") (by rfl) T.str (by decide +kernel) rfl) pa_nil)))
      (pe_one (pe_cmpR op_eq (pe_bm PySem.F.plainAttrs_str PySem.F.slot_str_strip PySem.F.type_str_strip mt_stripChars (pv 1) (pa_cons (pv 0) pa_nil)) pe_str (nomark _))))), ?_⟩
  refine ⟨_, rfl, _, _, _, _, _, rfl, .ty _, dt_ty hd, kit_D D (.inr (.inr (.inl rfl))), _, rfl, ?_⟩
  rw [isD_str]
  have q' := q H (Same.refl H)
  cases D with
  | str x =>
    obtain rfl := Vd.dt_str hd
    have hx : x.length ≤ 100000 := hw
    refine ⟨_, rfl, rfl, _, rfl, _, _, rfl, rfl, Nat.le_trans hx (by decide), rfl, ?_⟩
    have e : decide (V.str (Txt.stripChars x (mkS sg)) = V.str "") = textD sg (.str x) := by
      rw [strip_dec, mkS_cps]
      rfl
    show Q (.bl (decide (V.str (Txt.stripChars x (mkS sg)) = V.str ""))) H
    rw [e]
    exact q'
  | none => exact q'
  | bool _ => exact q'
  | int _ => exact q'
  | list _ => exact q'
  | tuple _ => exact q'
  | dict _ => exact q'
end
end Vf

set_option Elab.async false
set_option linter.all false
set_option maxRecDepth 100000
set_option maxHeartbeats 4000000
namespace Vf
open PySem PySem.Spec PyProof.Rows L2 L2.Vx Vs Vm
abbrev sSeen : Stmt := top 27
/-! ### the law's own view of a word -/
structure TxtS (mg : Str → Option Value) : Prop where
  len : mg "len" = none
  range : mg "range" = none
  tuple : mg "tuple" = none
  sorted : mg "sorted" = none
  min : mg "min" = none
theorem cnt_is (k t : Nat) (z : Wd) : sumD t (tab k z) = pairsD (fun p => ((min t (often k z p) : Nat) : Int)) (asc (wins k z)) := by
  unfold sumD
  rw [tab_keys, asc_asc]
  exact congrArg (fun f => pairsD f _) (funext fun p => by rw [tally_tab])
section
variable {P : Program} {w : World} {K : PySem.W.Frag} {mg : Str → Option Value} {base : Heap}
abbrev nSeen : List Str := ["_law_k", "_law_t", "_law_word_here", "_law_found", "_law_at", "_law_bit", "_law_told"]
theorem scSeen : FnScope nSeen ["_law_k", "_law_t", "_law_word_here"] (defScope sSeen) := ⟨rfl, rfl, rfl, by decide +kernel, rfl, by decide +kernel, by decide +kernel⟩
theorem ok_seen {f : Addr} {fd : FuncData} (F : Fun K "_law_seen" "_law_seen" sSeen f fd) (T : TxtS mg) : FnOk P w K mg base CX0 1 f fd ["_law_k", "_law_t", "_law_word_here"] spView := by
  refine F.ok scSeen (fun vs H Q E h => ?_) (fun cdv A outer s H vs Q E hr h => ?_)
  · obtain ⟨k, t, z, rfl, _⟩ := h
    rfl
  obtain ⟨k, t, z, rfl, hk1, hk2, ht, hz, q⟩ := h
  have hu := hu_of hr
  refine ⟨_, pss_cons (ps_if (pt_cmpR op_lt (pe_callB call_len_str (by rfl) T.len PySem.boot_len (pa_cons (pv 2) pa_nil)) (pv 0) (nomark _)) (pss_one (ps_ret (pe_tup (pa_cons pe_str (pa_cons (pv 2) pa_nil))))) pss_nil)
    (pss_cons (ps_set (i := 3) scSeen.nd rfl (Or.inr rfl) pe_dnewK)
    (pss_cons (ps_for PassesOwn.never rfl (pi_range1 rfl T.range (pa_cons (pe_op op_add (pe_op op_sub (pe_callB call_len_str (by rfl) T.len PySem.boot_len (pa_cons (pv 2) pa_nil)) (pv 0)) pe_int) pa_nil)) (pg_name (i := 4) scSeen.nd rfl (Or.inl rfl))
      (pss_cons (ps_set (i := 5) scSeen.nd rfl (Or.inl rfl) (pe_slice sl_str (pv 2) (po_some (pv 4)) (po_some (pe_op op_add (pv 4) (pv 0)))))
      (pss_one (ps_dput hu (pv 3) (pv 5) (pe_op op_add (pe_dget2 hu (pv 3) (pv 5) pe_int ⟨rfl, rfl, rfl, rfl⟩) pe_int) rfl))))
    (pss_cons (ps_set (i := 6) scSeen.nd rfl (Or.inl rfl) (pe_callTy call_tuple_of (by rfl) T.tuple (by decide +kernel) (pa_cons (pe_lc (own := [("_law_bit", 5)]) (g := gName 5) (tt := tYes) rfl scSeen.nd
        (pi_list (pe_callB (cr_sortedDK rfl) (by rfl) T.sorted (by decide +kernel) (pa_cons (pv 3) pa_nil)))
        (blkOk_by (N := nSeen) (sc := defScope sSeen) (by decide +kernel)) (fun _ _ _ _ _ => pg_name (i := 5) scSeen.nd rfl (Or.inl rfl)) (fun _ _ _ _ _ => pts_nil)
        (fun _ _ _ _ _ => by exact pe_tup (pa_cons (pv 5) (pa_cons (pe_callB (call_min2 rfl) (by rfl) T.min (by decide +kernel) (pa_cons (pv 1) (pa_cons (pe_dget hu (pv 3) (pv 5) (fun _ _ => rfl)) pa_nil))) pa_nil)))) pa_nil)))
    (pss_one (ps_ret (pe_tup (pa_cons pe_str (pa_cons (pe_slice sl_str (pv 2) po_none (po_some (pe_op op_sub (pv 0) pe_int)))
      (pa_cons (pe_slice sl_str (pv 2) (po_some (pe_op op_add (pe_op op_sub (pe_callB call_len_str (by rfl) T.len PySem.boot_len (pa_cons (pv 2) pa_nil)) (pv 0)) pe_int)) po_none) (pa_cons (pv 6) pa_nil)))))))))), ?_⟩
  have hlz : (mkS z).length = z.length := mkS_length z
  have hz16 : (mkS z).length ≤ sizeLine := by rw [hlz, sizeLine_eq]; omega
  refine ⟨_, rfl, _, rfl, hz16, _, rfl, _, _, rfl, rfl, _, rfl, ?_⟩
  refine ite2 (fun c => ?_) (fun c => ?_)
  · have c' : z.length < k := by have := of_decide_eq_true c; rw [hlz] at this; omega
    refine ⟨_, rfl, (by show 2 ≤ sizeLine; decide), fun u hu => q _ _ (same_new hu _) ?_⟩
    rw [view_short c']
    exact .tup upd_same hu (.cons (.flat (show FlatD (.str "short") (.str "short") from rfl)) (.cons (.flat (show FlatD (.str (mkS z)) (.str (mkS z)) from rfl)) .nil))
  have c' : ¬ z.length < k := fun x => c (decide_eq_true (by rw [hlz]; omega))
  intro d hd
  refine ⟨_, rfl, _, rfl, hz16, _, rfl, _, _, rfl, rfl, _, _, rfl, rfl, _, rfl, by rw [hlz]; omega, by rw [hlz]; omega, ?_⟩
  have hn : ((((mkS z).length : Nat) : Int) - k + 1).toNat = z.length + 1 - k := by rw [hlz]; omega
  rw [hn]
  refine for_range (lo := 0) (n := z.length + 1 - k) (fun i σ H' => ∃ (v4 v5 : Option V) (ks : List Wd), σ = [some (.int k), some (.int t), some (.str (mkS z)), some (.ref d), v4, v5, none] ∧ ks.Nodup ∧ (∀ p, p ∈ ks ↔ p ∈ (wins k z).take i) ∧ ks.length ≤ i ∧
      H' d = some (.dK (entK (fun p => .int (upto k z p i : Nat)) ks)) ∧ Same H H') ⟨none, none, [], rfl, List.nodup_nil, fun p => by simp, Nat.le_refl _, upd_same, same_new hd _⟩ ?_ ?_
  · rintro i σ H1 hi ⟨v4, v5, ks, rfl, nd, mem, hl, hd1, s1⟩
    refine ⟨_, rfl, _, rfl, _, rfl, _, rfl, _, rfl, _, _, rfl, rfl, _, rfl, _, rfl, hz16, ?_⟩
    rw [show ((0 : Int) + (i : Nat)) = (i : Nat) from Int.zero_add _, cut_win hi]
    refine ⟨_, rfl, d, rfl, .inl ⟨_, .inl hd1⟩, _, rfl, _, DGet.k (k := kS (win k z i)) hd1, ?_⟩
    rw [getD_ent (f := fun p => V.int (upto k z p i : Nat)) (v := .int 0) fun c => by rw [upto_zero fun x => c ((mem _).mpr x)]; rfl]
    refine ⟨_, _, rfl, rfl, _, rfl, _, rfl, d, _, rfl, DPut.k (k := kS (win k z i)) hd1 (by rw [entK_length, sizeLine_eq]; omega), ?_⟩
    refine ⟨_, _, more ks (win k z i), rfl, more_nodup nd _, fun p => ?_, Nat.le_trans (more_length _ _) (Nat.succ_le_succ hl), ?_, fun b o e => ?_⟩
    · rw [mem_more, mem_take_succ hi, mem p]
    · rw [upd_same, putK_ent]
      refine congrArg (fun x => some (HO.dK x)) (entK_congr fun p _ => ?_)
      unfold at'
      by_cases c : p = win k z i
      · subst c
        rw [if_pos rfl, upto_hit hi rfl]
        rfl
      · rw [if_neg c, upto_miss hi c]
    · rw [upd_ne (ne_of_none e hd)]
      exact s1 b o e
  · rintro σ H1 ⟨v4, v5, ks, rfl, nd, mem, hl, hd1, s1⟩
    rw [List.take_of_length_le (by rw [wins_length]; exact Nat.le_refl _)] at mem
    have ea : asc ks = asc (wins k z) := asc_congr mem
    have eu : (fun p => V.int (upto k z p (z.length + 1 - k) : Nat)) = fun p => V.int (often k z p : Nat) := funext fun p => by rw [upto_all (Nat.le_refl _)]
    rw [eu] at hd1
    refine ⟨_, rfl, d, _, ks, rfl, .inl hd1, nd, by omega, fun u hu' => ?_⟩
    rw [ea]
    have s2 := s1.trans (same_new hu' (.lst (((asc (wins k z)).map mkS).map .str)))
    have s2d := same_new hu' (.lst (((asc (wins k z)).map mkS).map .str)) _ _ hd1
    have eu : upd H1 u (.lst (((asc (wins k z)).map mkS).map .str)) u = some (.lst (((asc (wins k z)).map mkS).map .str)) := upd_same
    generalize upd H1 u (.lst (((asc (wins k z)).map mkS).map .str)) = H5 at s2 s2d eu ⊢
    refine ⟨u, rfl, ⟨_, SqL.of eu⟩, fun D hD5 => ?_⟩
    have la := asc_length_le (wins k z)
    rw [wins_length] at la
    refine lc_it (walk_list (xs := ((asc (wins k z)).map mkS).map .str)) (fun i H' => ∃ vs, H' D = some (.lst vs) ∧ vs.length = i ∧ DtAll H' (fun a => H5 a = none ∧ a ≠ D) vs (((asc (wins k z)).take i).map (pairD fun p => ((min t (often k z p) : Nat) : Int))) ∧ Same H5 H')
      ⟨[], upd_same, rfl, .nil, same_new hD5 _⟩ (fun i H' _ ⟨_, _, _, _, s⟩ => s.seq (SqL.of eu)) ?_ ?_
    · rintro i x H6 H7 hi ⟨vs, m1, m2, m3, m4⟩ ⟨rfl, hx⟩
      obtain ⟨y, hy, rfl⟩ := str_at hx
      have hyw : y ∈ wins k z := mem_asc.mp (List.mem_of_getElem? hy)
      have hil : i < (asc (wins k z)).length := by rw [List.length_map, List.length_map] at hi; exact hi
      refine ⟨rfl, _, rfl, _, rfl, _, rfl, _, rfl, d, _, rfl, get_ent (m4 _ _ s2d) ((mem y).mpr hyw), _, _, rfl, (by show 2 ≤ sizeLine; decide), fun t' ht' => ?_⟩
      have em : (if ((often k z y : Nat) : Int) < (t : Nat) then ((often k z y : Nat) : Int) else (t : Nat)) = ((min t (often k z y) : Nat) : Int) := by split <;> omega
      rw [em]
      have htD : t' ≠ D := (ne_of_none m1 ht').symm
      have ht5 : H5 t' = none := m4.free ht'
      refine ⟨_, by rw [upd_ne htD.symm]; exact m1, (by rw [m2, sizeLine_eq]; omega), vs ++ [.ref t'], upd_same, by rw [List.length_append, m2]; rfl, ?_, fun b' o e => ?_⟩
      · rw [List.take_add_one, hy, List.map_append]
        exact dtAll_snoc m3 (fun a z => z.2) ht' ⟨ht5, htD⟩ (.tup (xs := [.str (mkS y), .int ((min t (often k z y) : Nat) : Int)]) (by rw [upd_ne htD]; exact upd_same) ⟨ht5, htD⟩ (.cons (.flat (show FlatD (.str (mkS y)) (.str (mkS y)) from rfl)) (.cons (.flat (show FlatD (.int ((min t (often k z y) : Nat) : Int)) (.int ((min t (often k z y) : Nat) : Int)) from rfl)) .nil)))
      · rw [upd_ne (ne_of_none e hD5)]
        exact same_new ht' _ _ _ (m4 b' o e)
    · rintro H6 ⟨vs, m1, m2, m3, m4⟩
      rw [List.length_map, List.length_map, List.take_length] at m3
      refine ⟨D, _, rfl, .inl ⟨SqL.of m1, fun t' ht' => ?_⟩⟩
      have s3 := same_new ht' (.tup vs)
      have s7 := (s2.trans m4)
      have due : Dt (upd H6 t' (.tup vs)) (New H) (.ref t') (sumD t (tab k z)) := by
        rw [cnt_is]
        exact .tup upd_same (s7.free ht') (m3.mono (fun a o _ e => s3 a o e) fun a _ sa _ => s2.free sa.1)
      have s8 := s7.trans s3
      refine ⟨_, rfl, _, rfl, _, _, rfl, rfl, _, rfl, _, rfl, hz16, ?_⟩
      have e1 : (k : Int) - 1 = ((k - 1 : Nat) : Int) := by omega
      rw [e1, cut_head]
      refine ⟨_, rfl, _, rfl, _, rfl, hz16, _, rfl, _, _, rfl, rfl, _, _, rfl, rfl, _, rfl, _, rfl, hz16, ?_⟩
      have e2 : (((mkS z).length : Nat) : Int) - k + 1 = ((z.length + 1 - k : Nat) : Int) := by rw [hlz]; omega
      rw [e2, cut_tail (by omega)]
      refine ⟨_, rfl, (by show 4 ≤ sizeLine; decide), fun u2 hu2 => ?_⟩
      have s9 := same_new hu2 (.tup [.str "long", .str (mkS (z.take (k - 1))), .str (mkS (z.drop (z.length + 1 - k))), .ref t'])
      refine q _ _ (s8.trans s9) ?_
      rw [view_long c']
      exact .tup upd_same (s8.free hu2) (.cons (.flat (show FlatD (.str "long") (.str "long") from rfl)) (.cons (.flat (show FlatD (.str (mkS (z.take (k - 1)))) (.str (mkS (z.take (k - 1)))) from rfl)) (.cons (.flat (show FlatD (.str (mkS (z.drop (z.length + 1 - k)))) (.str (mkS (z.drop (z.length + 1 - k)))) from rfl))
        (.cons (dt_same due s9) .nil))))
end
end Vf

set_option Elab.async false
set_option linter.all false
set_option maxRecDepth 100000
set_option maxHeartbeats 4000000
namespace Vf
open PySem PySem.Spec PyProof.Rows L2 L2.Vx Vs Vm Vd
abbrev clsK : Stmt := top 20
abbrev sKInit : Stmt := inClass clsK 0
abbrev sKText : Stmt := inClass clsK 1
abbrev sKView : Stmt := inClass clsK 2
abbrev sKLen : Stmt := inClass clsK 3
abbrev sKItem : Stmt := inClass clsK 4
abbrev sKPlace : Stmt := inClass clsK 6
abbrev sKChange : Stmt := inClass clsK 7
abbrev sKPut : Stmt := inClass clsK 8
abbrev sKCut : Stmt := inClass clsK 9
/-! ### a kept text: its attributes, the texts ahead of its deeds -/
def fl (l k t x e : V) : List (Str × V) := [("_letters", l), ("_width", k), ("_top", t), ("_text", x), ("_earlier", e)]
theorem fl_made (l k t x e : V) : putF "_earlier" e (putF "_text" x (putF "_top" t (putF "_width" k (putF "_letters" l [])))) = fl l k t x e := rfl
theorem fl_text (l k t x e y : V) : putF "_text" y (fl l k t x e) = fl l k t y e := rfl
structure KeptAt (C : Addr) (H : Hp) (p dx e : Addr) (sg : Wd) (k t : Nat) (z : Wd) (zs : List Wd) : Prop where
  ob : H p = some (.ins C dx (fl (.str (mkS sg)) (.int k) (.int t) (.str (mkS z)) (.ref e)))
  er : H e = some (.lst ((zs.map mkS).map .str))
theorem KeptAt.same {C : Addr} {H H' : Hp} {p dx e : Addr} {sg : Wd} {k t : Nat} {z : Wd} {zs : List Wd} (h : KeptAt C H p dx e sg k t z zs) (s : Same H H') : KeptAt C H' p dx e sg k t z zs := ⟨s _ _ h.ob, s _ _ h.er⟩
theorem KeptAt.ne {C : Addr} {H : Hp} {p dx e : Addr} {sg : Wd} {k t : Nat} {z : Wd} {zs : List Wd} (h : KeptAt C H p dx e sg k t z zs) : p ≠ e := ne_of h.ob h.er (by intro z; cases z)
structure TxtK (K : PySem.W.Frag) (mg : Str → Option Value) (C : Addr) : Prop where
  cl : Cls K C
  nL : NoAttr K C "_letters"
  nW : NoAttr K C "_width"
  nT : NoAttr K C "_top"
  nX : NoAttr K C "_text"
  nE : NoAttr K C "_earlier"
def spKInit (C : Addr) : Sp := fun vs H Q _ => ∃ (p dx : Addr) (sg : Wd) (k t : Nat) (z : Wd), vs = [.ref p, .str (mkS sg), .int k, .int t, .str (mkS z)] ∧ H p = some (.ins C dx []) ∧ (∀ c ∈ z, c ∈ sg) ∧ z.length ≤ 100000 ∧
  ∀ (e : Addr) (H' : Hp), KeptAt C H' p dx e sg k t z [] → H e = none → (∀ b o, b ≠ p → H b = some o → H' b = some o) → Q .non H'
def spKText (C : Addr) : Sp := fun vs H Q _ => ∃ (p dx e : Addr) (sg : Wd) (k t : Nat) (z : Wd) (zs : List Wd), vs = [.ref p] ∧ KeptAt C H p dx e sg k t z zs ∧ Q (.str (mkS z)) H
def spKView (C : Addr) : Sp := fun vs H Q _ => ∃ (p dx e : Addr) (sg : Wd) (k t : Nat) (z : Wd) (zs : List Wd), vs = [.ref p] ∧ KeptAt C H p dx e sg k t z zs ∧ 1 ≤ k ∧ k ≤ 1000 ∧ 1 ≤ t ∧ z.length ≤ 3000 ∧ ∀ v H', Same H H' → Dt H' (New H) v (viewD k t z) → Q v H'
def spKLen (C : Addr) : Sp := fun vs H Q _ => ∃ (p dx e : Addr) (sg : Wd) (k t : Nat) (z : Wd) (zs : List Wd), vs = [.ref p] ∧ KeptAt C H p dx e sg k t z zs ∧ z.length ≤ 100000 ∧ Q (.int (z.length : Nat)) H
def spKItem (C : Addr) : Sp := fun vs H Q _ => ∃ (p dx e : Addr) (sg : Wd) (k t : Nat) (z : Wd) (zs : List Wd) (i c : Nat), vs = [.ref p, .int i] ∧ KeptAt C H p dx e sg k t z zs ∧ z.length ≤ 100000 ∧ z[i]? = some c ∧ ∀ H', Same H H' → Q (.str (mkS [c])) H'
def spKPlace (C : Addr) : Sp := fun vs H Q _ => ∃ (p dx e : Addr) (sg : Wd) (k t : Nat) (z : Wd) (zs : List Wd) (i : Nat), vs = [.ref p, .int i] ∧ KeptAt C H p dx e sg k t z zs ∧ z.length ≤ 100000 ∧ i ≤ z.length ∧ ∀ H', Same H H' → Q .non H'
def spKChange (C : Addr) : Sp := fun vs H Q _ => ∃ (p dx e : Addr) (sg : Wd) (k t : Nat) (z : Wd) (zs : List Wd) (y : Wd), vs = [.ref p, .str (mkS y)] ∧ KeptAt C H p dx e sg k t z zs ∧ zs.length ≤ 100000 ∧
  ∀ H', KeptAt C H' p dx e sg k t y (zs ++ [z]) → Keeps p e H H' → Q .non H'
def spKPut (C : Addr) : Sp := fun vs H Q _ => ∃ (p dx e : Addr) (sg : Wd) (k t : Nat) (z : Wd) (zs : List Wd) (i : Nat) (y : Wd), vs = [.ref p, .int i, .str (mkS y)] ∧ KeptAt C H p dx e sg k t z zs ∧ zs.length ≤ 100000 ∧ z.length ≤ 100000 ∧ i ≤ z.length ∧ (∀ c ∈ y, c ∈ sg) ∧ y.length ≤ 100000 ∧
  ∀ H', KeptAt C H' p dx e sg k t (z.take i ++ y ++ z.drop i) (zs ++ [z]) → Keeps p e H H' → Q .non H'
def spKCut (C : Addr) : Sp := fun vs H Q _ => ∃ (p dx e : Addr) (sg : Wd) (k t : Nat) (z : Wd) (zs : List Wd) (i j : Nat), vs = [.ref p, .int i, .int j] ∧ KeptAt C H p dx e sg k t z zs ∧ zs.length ≤ 100000 ∧ z.length ≤ 100000 ∧ i ≤ j ∧ j ≤ z.length ∧
  ∀ H', KeptAt C H' p dx e sg k t (z.take i ++ z.drop j) (zs ++ [z]) → Keeps p e H H' → Q (.str (mkS ((z.drop i).take (j - i)))) H'
theorem str_dt {H : Hp} {z : Wd} : Dt H (fun _ => True) (.str (mkS z)) (.str (mkS z)) := .flat rfl
theorem int_dt {H : Hp} {i : Int} : Dt H (fun _ => True) (.int i) (.int i) := .flat rfl
theorem text_in {sg z : Wd} (h : ∀ c ∈ z, c ∈ sg) : textD sg (.str (mkS z)) = true := by
  show ((mkS z).cps.toList.all fun c => decide (c ∈ sg)) = true
  rw [mkS_cps, List.all_eq_true]
  exact fun c hc => decide_eq_true (h c hc)
theorem str_wide {z : Wd} (h : z.length ≤ 100000) : wideD 100000 (.str (mkS z)) := by
  show (mkS z).length ≤ 100000
  rw [mkS_length]
  exact h
theorem cut_mid {z : Wd} {i j : Nat} (h : i ≤ j) (hj : j ≤ z.length) : cutS (mkS z) (some (i : Int)) (some (j : Int)) = mkS ((z.drop i).take (j - i)) := by
  unfold cutS
  rw [mkS_length, mkS_cps]
  rw [show HT.sIx z.length z.length (some (j : Int)) = min j z.length from HT.sIx_nat _ _ j, show HT.sIx z.length 0 (some (i : Int)) = min i z.length from HT.sIx_nat _ _ i, Nat.min_eq_left hj, Nat.min_eq_left (Nat.le_trans h hj)]
  rfl
section
variable {P : Program} {w : World} {K : PySem.W.Frag} {mg : Str → Option Value} {base : Heap} {C : Addr}
theorem scKInit : FnScope ["self", "letters", "width", "top", "text"] ["self", "letters", "width", "top", "text"] (defScope sKInit) := ⟨rfl, rfl, rfl, by decide +kernel, rfl, by decide +kernel, by decide +kernel⟩
theorem ok_kinit {f fT : Addr} {fd fdT : FuncData} {dvs : List V} {kws : List (Str × V)} (F : FunD K "__init__" "Kept.__init__" (defArgs sKInit) (defBody sKInit) (defScope sKInit) dvs kws f fd) (T : TxtK K mg C)
    (GT : FnOk P w K mg base CX0 1 fT fdT ["letters", "thing"] spText) (bT : Binds K fdT ["letters", "thing"] []) (kT : PySem.W.keepIn K (.ref fT) = true) (mT : mg "is_text" = some (.ref fT)) :
    FnOk P w K mg base CX0 2 f fd ["self", "letters", "width", "top", "text"] (spKInit C) := by
  refine F.ok scKInit (fun vs H Q E h => ?_) (fun cdv A outer s H vs Q E hr h => ?_)
  · obtain ⟨p, dx, sg, k, t, z, rfl, _⟩ := h
    rfl
  obtain ⟨p, dx, sg, k, t, z, rfl, hp, hz, hzl, q⟩ := h
  refine ⟨_, pss_cons (ps_if (pt_not (pt_val (pe_call GT hr rfl mT kT bT .nil pass0 (pa_cons (pv 1) (pa_cons (pv 4) pa_nil))))) (pss_one ps_never) pss_nil)
    (pss_cons (ps_fld (pv 0) (pv 1) rfl) (pss_cons (ps_fld (pv 0) (pv 2) rfl) (pss_cons (ps_fld (pv 0) (pv 3) rfl) (pss_cons (ps_fld (pv 0) (pv 4) rfl) (pss_one (ps_fld (pv 0) (pe_lst pa_nil) rfl)))))), ?_⟩
  refine ⟨_, rfl, _, rfl, sg, _, _, _, rfl, str_dt, str_wide hzl, fun H1 s1 => ⟨_, rfl, ?_⟩⟩
  rw [text_in hz]
  refine if_fl rfl ?_
  have hp1 := s1 _ _ hp
  refine ⟨_, rfl, _, rfl, p, C, dx, _, rfl, hp1, T.cl, T.nL, (by show 0 < 1000; decide), ?_⟩
  refine ⟨_, rfl, _, rfl, p, C, dx, _, rfl, upd_same, T.cl, T.nW, (by show 1 < 1000; decide), ?_⟩
  refine ⟨_, rfl, _, rfl, p, C, dx, _, rfl, upd_same, T.cl, T.nT, (by show 2 < 1000; decide), ?_⟩
  refine ⟨_, rfl, _, rfl, p, C, dx, _, rfl, upd_same, T.cl, T.nX, (by show 3 < 1000; decide), ?_⟩
  refine ⟨Nat.zero_le _, fun e he => ?_⟩
  have np : p ≠ e := ne_of_none upd_same he
  refine ⟨_, rfl, p, C, dx, _, rfl, (upd_ne np).trans upd_same, T.cl, T.nE, (by show 4 < 1000; decide), ?_⟩
  have he' : H e = none := by
    rw [upd_ne np.symm, upd_ne np.symm, upd_ne np.symm, upd_ne np.symm] at he
    cases g : H e with
    | none => rfl
    | some o => rw [s1 _ _ g] at he; cases he
  refine q e _ ⟨upd_same, by rw [upd_ne np.symm]; exact upd_same⟩ he' fun b o nb g => ?_
  rw [upd_ne nb, upd_ne (ne_of_none g he'), upd_ne nb, upd_ne nb, upd_ne nb, upd_ne nb]
  exact s1 _ _ g
theorem scKText : FnScope ["self"] ["self"] (defScope sKText) := ⟨rfl, rfl, rfl, by decide +kernel, rfl, by decide +kernel, by decide +kernel⟩
theorem ok_ktext {f : Addr} {fd : FuncData} (F : Fun K "text" "Kept.text" sKText f fd) (T : TxtK K mg C) : FnOk P w K mg base CX0 1 f fd ["self"] (spKText C) := by
  refine F.ok scKText (fun vs H Q E h => ?_) (fun cdv A outer s H vs Q E hr h => ?_)
  · obtain ⟨p, dx, e, sg, k, t, z, zs, rfl, _⟩ := h
    rfl
  obtain ⟨p, dx, e, sg, k, t, z, zs, rfl, hk, q⟩ := h
  refine ⟨_, pss_one (ps_ret (pe_fld (pv 0) rfl)), ?_⟩
  exact ⟨_, rfl, p, C, dx, _, _, rfl, hk.ob, T.cl, T.nX, rfl, q⟩
theorem scKView : FnScope ["self"] ["self"] (defScope sKView) := ⟨rfl, rfl, rfl, by decide +kernel, rfl, by decide +kernel, by decide +kernel⟩
theorem ok_kview {f fV : Addr} {fd fdV : FuncData} {kv : Nat} (F : Fun K "view" "Kept.view" sKView f fd) (T : TxtK K mg C)
    (GV : FnOk P w K mg base CX0 kv fV fdV ["width", "top", "text"] spView) (bV : Binds K fdV ["width", "top", "text"] []) (kV' : PySem.W.keepIn K (.ref fV) = true) (mV : mg "view_of" = some (.ref fV)) :
    FnOk P w K mg base CX0 (kv + 1) f fd ["self"] (spKView C) := by
  refine F.ok scKView (fun vs H Q E h => ?_) (fun cdv A outer s H vs Q E hr h => ?_)
  · obtain ⟨p, dx, e, sg, k, t, z, zs, rfl, _⟩ := h
    rfl
  obtain ⟨p, dx, e, sg, k, t, z, zs, rfl, hk, k1, k2, t1, hz, q⟩ := h
  refine ⟨_, pss_one (ps_ret (pe_call GV hr rfl mV kV' bV .nil pass0 (pa_cons (pe_fld (pv 0) rfl) (pa_cons (pe_fld (pv 0) rfl) (pa_cons (pe_fld (pv 0) rfl) pa_nil))))), ?_⟩
  exact ⟨_, rfl, p, C, dx, _, _, rfl, hk.ob, T.cl, T.nW, rfl, _, rfl, p, C, dx, _, _, rfl, hk.ob, T.cl, T.nT, rfl, _, rfl, p, C, dx, _, _, rfl, hk.ob, T.cl, T.nX, rfl, k, t, z, rfl, k1, k2, t1, hz, q⟩
theorem scKLen : FnScope ["self"] ["self"] (defScope sKLen) := ⟨rfl, rfl, rfl, by decide +kernel, rfl, by decide +kernel, by decide +kernel⟩
theorem ok_klen {f : Addr} {fd : FuncData} (F : Fun K "__len__" "Kept.__len__" sKLen f fd) (T : TxtK K mg C) (hlen : mg "len" = none) : FnOk P w K mg base CX0 1 f fd ["self"] (spKLen C) := by
  refine F.ok scKLen (fun vs H Q E h => ?_) (fun cdv A outer s H vs Q E hr h => ?_)
  · obtain ⟨p, dx, e, sg, k, t, z, zs, rfl, _⟩ := h
    rfl
  obtain ⟨p, dx, e, sg, k, t, z, zs, rfl, hk, hz, q⟩ := h
  refine ⟨_, pss_one (ps_ret (pe_callB call_len_str (by rfl) hlen PySem.boot_len (pa_cons (pe_fld (pv 0) rfl) pa_nil))), ?_⟩
  refine ⟨_, rfl, p, C, dx, _, _, rfl, hk.ob, T.cl, T.nX, rfl, _, rfl, by rw [mkS_length, sizeLine_eq]; omega, ?_⟩
  rw [mkS_length]
  exact q
theorem scKItem : FnScope ["self", "at"] ["self", "at"] (defScope sKItem) := ⟨rfl, rfl, rfl, by decide +kernel, rfl, by decide +kernel, by decide +kernel⟩
theorem ok_kitem {f fS : Addr} {fd fdS : FuncData} (F : Fun K "__getitem__" "Kept.__getitem__" sKItem f fd) (T : TxtK K mg C) (hlen : mg "len" = none)
    (GS : FnOk P w K mg base CX0 2 fS fdS ["thing", "many"] spState) (bS : Binds K fdS ["thing", "many"] []) (kS' : PySem.W.keepIn K (.ref fS) = true) (mS : mg "is_state" = some (.ref fS)) :
    FnOk P w K mg base CX0 3 f fd ["self", "at"] (spKItem C) := by
  refine F.ok scKItem (fun vs H Q E h => ?_) (fun cdv A outer s H vs Q E hr h => ?_)
  · obtain ⟨p, dx, e, sg, k, t, z, zs, i, c, rfl, _⟩ := h
    rfl
  obtain ⟨p, dx, e, sg, k, t, z, zs, i, c, rfl, hk, hz, hc, q⟩ := h
  have hi : i < z.length := (List.getElem?_eq_some_iff.mp hc).1
  refine ⟨_, pss_cons (ps_if (pt_not (pt_val (pe_call GS hr rfl mS kS' bS .nil pass0 (pa_cons (pv 1) (pa_cons (pe_callB call_len_str (by rfl) hlen PySem.boot_len (pa_cons (pe_fld (pv 0) rfl) pa_nil)) pa_nil))))) (pss_one ps_never) pss_nil)
    (pss_one (ps_ret (pe_ix ix_str (pe_fld (pv 0) rfl) (pv 1) (fun _ _ => rfl)))), ?_⟩
  refine ⟨_, rfl, _, rfl, p, C, dx, _, _, rfl, hk.ob, T.cl, T.nX, rfl, _, rfl, by rw [mkS_length, sizeLine_eq]; omega, _, _, _, _, rfl, int_dt, fun H1 s1 => ⟨_, rfl, ?_⟩⟩
  have e1 : stateB ((mkS z).length : Nat) (.int (i : Int)) = true := by
    show (decide (0 ≤ (i : Int)) && decide ((i : Int) < _)) = true
    rw [mkS_length, decide_eq_true (by omega), decide_eq_true (by omega)]
    rfl
  rw [e1]
  refine if_fl rfl ?_
  refine ⟨_, rfl, p, C, dx, _, _, rfl, s1 _ _ hk.ob, T.cl, T.nX, rfl, _, rfl, _, _, c, rfl, rfl, by rw [mkS_length, sizeLine_eq]; omega, ?_, q _ s1⟩
  rw [mkS_cps]
  exact atI_nat hc
theorem scKPlace : FnScope ["self", "place"] ["self", "place"] (defScope sKPlace) := ⟨rfl, rfl, rfl, by decide +kernel, rfl, by decide +kernel, by decide +kernel⟩
theorem ok_kplace {f fS : Addr} {fd fdS : FuncData} (F : Fun K "_check_place" "Kept._check_place" sKPlace f fd) (T : TxtK K mg C) (hlen : mg "len" = none)
    (GS : FnOk P w K mg base CX0 2 fS fdS ["thing", "many"] spState) (bS : Binds K fdS ["thing", "many"] []) (kS' : PySem.W.keepIn K (.ref fS) = true) (mS : mg "is_state" = some (.ref fS)) :
    FnOk P w K mg base CX0 3 f fd ["self", "place"] (spKPlace C) := by
  refine F.ok scKPlace (fun vs H Q E h => ?_) (fun cdv A outer s H vs Q E hr h => ?_)
  · obtain ⟨p, dx, e, sg, k, t, z, zs, i, rfl, _⟩ := h
    rfl
  obtain ⟨p, dx, e, sg, k, t, z, zs, i, rfl, hk, hz, hi, q⟩ := h
  refine ⟨_, pss_one (ps_if (pt_not (pt_val (pe_call GS hr rfl mS kS' bS .nil pass0 (pa_cons (pv 1) (pa_cons (pe_op op_add (pe_callB call_len_str (by rfl) hlen PySem.boot_len (pa_cons (pe_fld (pv 0) rfl) pa_nil)) pe_int) pa_nil))))) (pss_one ps_never) pss_nil), ?_⟩
  refine ⟨_, rfl, _, rfl, p, C, dx, _, _, rfl, hk.ob, T.cl, T.nX, rfl, _, rfl, by rw [mkS_length, sizeLine_eq]; omega, _, _, rfl, rfl, _, _, _, _, rfl, int_dt, fun H1 s1 => ⟨_, rfl, ?_⟩⟩
  have e1 : stateB (((mkS z).length : Nat) + 1) (.int (i : Int)) = true := by
    show (decide (0 ≤ (i : Int)) && decide ((i : Int) < _)) = true
    rw [mkS_length, decide_eq_true (by omega), decide_eq_true (by omega)]
    rfl
  rw [e1]
  exact if_fl rfl (q _ s1)
theorem scKChange : FnScope ["self", "text"] ["self", "text"] (defScope sKChange) := ⟨rfl, rfl, rfl, by decide +kernel, rfl, by decide +kernel, by decide +kernel⟩
theorem ok_kchange {f : Addr} {fd : FuncData} (F : Fun K "_change" "Kept._change" sKChange f fd) (T : TxtK K mg C) : FnOk P w K mg base CX0 1 f fd ["self", "text"] (spKChange C) := by
  refine F.ok scKChange (fun vs H Q E h => ?_) (fun cdv A outer s H vs Q E hr h => ?_)
  · obtain ⟨p, dx, e, sg, k, t, z, zs, y, rfl, _⟩ := h
    rfl
  obtain ⟨p, dx, e, sg, k, t, z, zs, y, rfl, hk, hzs, q⟩ := h
  have np := hk.ne
  refine ⟨_, pss_cons (ps_expr (pe_bm PySem.F.plainAttrs_list PySem.F.slot_list_append PySem.F.type_list_append mt_append (pe_fld (pv 0) rfl) (pa_cons (pe_fld (pv 0) rfl) pa_nil))) (pss_one (ps_fld (pv 0) (pv 1) rfl)), ?_⟩
  refine ⟨_, rfl, p, C, dx, _, _, rfl, hk.ob, T.cl, T.nE, rfl, .inl ⟨rfl, _, SqL.of hk.er⟩, _, rfl, p, C, dx, _, _, rfl, hk.ob, T.cl, T.nX, rfl, e, _, _, rfl, rfl, hk.er, by rw [List.length_map, List.length_map, sizeLine_eq]; omega, ?_⟩
  refine ⟨_, rfl, _, rfl, p, C, dx, _, rfl, (upd_ne np).trans hk.ob, T.cl, T.nX, (by show 5 < 1000; decide), ?_⟩
  refine q _ ⟨upd_same, ?_⟩ fun b o n1 n2 g => ?_
  · rw [upd_ne np.symm, upd_same, List.map_append, List.map_append]
    rfl
  · rw [upd_ne n1, upd_ne n2]
    exact g
theorem scKPut : FnScope ["self", "place", "text"] ["self", "place", "text"] (defScope sKPut) := ⟨rfl, rfl, rfl, by decide +kernel, rfl, by decide +kernel, by decide +kernel⟩
theorem ok_kput {f fT fP fG : Addr} {fd fdT fdP fdG : FuncData} (F : Fun K "put" "Kept.put" sKPut f fd) (T : TxtK K mg C)
    (GT : FnOk P w K mg base CX0 1 fT fdT ["letters", "thing"] spText) (bT : Binds K fdT ["letters", "thing"] []) (kT : PySem.W.keepIn K (.ref fT) = true) (mT : mg "is_text" = some (.ref fT))
    (GP : FnOk P w K mg base CX0 3 fP fdP ["self", "place"] (spKPlace C)) (bP : Binds K fdP ["self", "place"] []) (mP : Meth K C "_check_place" fP)
    (GG : FnOk P w K mg base CX0 1 fG fdG ["self", "text"] (spKChange C)) (bG : Binds K fdG ["self", "text"] []) (mG : Meth K C "_change" fG) :
    FnOk P w K mg base CX0 4 f fd ["self", "place", "text"] (spKPut C) := by
  refine F.ok scKPut (fun vs H Q E h => ?_) (fun cdv A outer s H vs Q E hr h => ?_)
  · obtain ⟨p, dx, e, sg, k, t, z, zs, i, y, rfl, _⟩ := h
    rfl
  obtain ⟨p, dx, e, sg, k, t, z, zs, i, y, rfl, hk, hzs, hz, hi, hy, hyl, q⟩ := h
  have hr1 : Room 1 _ := hr.mono (by decide)
  refine ⟨_, pss_cons (ps_expr (pe_meth (pv 0) T.cl mP GP hr bP .nil pass0 (pa_cons (pv 1) pa_nil)))
    (pss_cons (ps_if (pt_not (pt_val (pe_call GT hr1 rfl mT kT bT .nil pass0 (pa_cons (pe_fld (pv 0) rfl) (pa_cons (pv 2) pa_nil))))) (pss_one ps_never) pss_nil)
    (pss_one (ps_expr (pe_meth (pv 0) T.cl mG GG hr1 bG .nil pass0 (pa_cons (pe_op op_add_str (pe_op op_add_str (pe_slice sl_str (pe_fld (pv 0) rfl) po_none (po_some (pv 1))) (pv 2)) (pe_slice sl_str (pe_fld (pv 0) rfl) (po_some (pv 1)) po_none)) pa_nil))))), ?_⟩
  refine ⟨_, rfl, p, dx, _, rfl, hk.ob, rfl, _, rfl, p, dx, e, sg, k, t, z, zs, i, rfl, hk, hz, hi, fun H1 s1 => ?_⟩
  have hk1 := hk.same s1
  refine ⟨_, rfl, p, C, dx, _, _, rfl, hk1.ob, T.cl, T.nL, rfl, _, rfl, sg, _, _, _, rfl, str_dt, str_wide hyl, fun H2 s2 => ⟨_, rfl, ?_⟩⟩
  rw [text_in hy]
  refine if_fl rfl ?_
  have hk2 := hk1.same s2
  have hz16 : (mkS z).length ≤ sizeLine := by rw [mkS_length, sizeLine_eq]; omega
  refine ⟨_, rfl, p, dx, _, rfl, hk2.ob, rfl, _, rfl, p, C, dx, _, _, rfl, hk2.ob, T.cl, T.nX, rfl, _, rfl, _, rfl, _, rfl, hz16, ?_⟩
  rw [cut_head]
  refine ⟨_, rfl, _, _, rfl, rfl, ?_, ?_⟩
  · rw [mkS_length, mkS_length, List.length_take, sizeLine_eq]
    omega
  rw [mkS_append]
  refine ⟨_, rfl, p, C, dx, _, _, rfl, hk2.ob, T.cl, T.nX, rfl, _, rfl, _, rfl, _, rfl, hz16, ?_⟩
  rw [cut_tail hi]
  refine ⟨_, _, rfl, rfl, ?_, ?_⟩
  · rw [mkS_length, mkS_length, List.length_append, List.length_take, List.length_drop, sizeLine_eq]
    omega
  rw [mkS_append]
  exact ⟨p, dx, e, sg, k, t, z, zs, _, rfl, hk2, hzs, fun H3 h3 k3 => q H3 h3 ((Keeps.of (s1.trans s2)).trans k3)⟩
theorem scKCut : FnScope ["self", "start", "stop", "taken"] ["self", "start", "stop"] (defScope sKCut) := ⟨rfl, rfl, rfl, by decide +kernel, rfl, by decide +kernel, by decide +kernel⟩
theorem ok_kcut {f fP fG : Addr} {fd fdP fdG : FuncData} (F : Fun K "cut" "Kept.cut" sKCut f fd) (T : TxtK K mg C)
    (GP : FnOk P w K mg base CX0 3 fP fdP ["self", "place"] (spKPlace C)) (bP : Binds K fdP ["self", "place"] []) (mP : Meth K C "_check_place" fP)
    (GG : FnOk P w K mg base CX0 1 fG fdG ["self", "text"] (spKChange C)) (bG : Binds K fdG ["self", "text"] []) (mG : Meth K C "_change" fG) :
    FnOk P w K mg base CX0 4 f fd ["self", "start", "stop"] (spKCut C) := by
  refine F.ok scKCut (fun vs H Q E h => ?_) (fun cdv A outer s H vs Q E hr h => ?_)
  · obtain ⟨p, dx, e, sg, k, t, z, zs, i, j, rfl, _⟩ := h
    rfl
  obtain ⟨p, dx, e, sg, k, t, z, zs, i, j, rfl, hk, hzs, hz, hij, hj, q⟩ := h
  have hr1 : Room 1 _ := hr.mono (by decide)
  refine ⟨_, pss_cons (ps_expr (pe_meth (pv 0) T.cl mP GP hr bP .nil pass0 (pa_cons (pv 1) pa_nil)))
    (pss_cons (ps_expr (pe_meth (pv 0) T.cl mP GP hr bP .nil pass0 (pa_cons (pv 2) pa_nil)))
    (pss_cons (ps_if (pt_cmpR op_lt (pv 2) (pv 1) (nomark _)) (pss_one ps_never) pss_nil)
    (pss_cons (ps_set (i := 3) scKCut.nd rfl (Or.inl rfl) (pe_slice sl_str (pe_fld (pv 0) rfl) (po_some (pv 1)) (po_some (pv 2))))
    (pss_cons (ps_expr (pe_meth (pv 0) T.cl mG GG hr1 bG .nil pass0 (pa_cons (pe_op op_add_str (pe_slice sl_str (pe_fld (pv 0) rfl) po_none (po_some (pv 1))) (pe_slice sl_str (pe_fld (pv 0) rfl) (po_some (pv 2)) po_none)) pa_nil)))
    (pss_one (ps_ret (pv 3))))))), ?_⟩
  have hz16 : (mkS z).length ≤ sizeLine := by rw [mkS_length, sizeLine_eq]; omega
  refine ⟨_, rfl, p, dx, _, rfl, hk.ob, rfl, _, rfl, p, dx, e, sg, k, t, z, zs, i, rfl, hk, hz, by omega, fun H1 s1 => ?_⟩
  have hk1 := hk.same s1
  refine ⟨_, rfl, p, dx, _, rfl, hk1.ob, rfl, _, rfl, p, dx, e, sg, k, t, z, zs, j, rfl, hk1, hz, hj, fun H2 s2 => ?_⟩
  have hk2 := hk1.same s2
  refine ⟨_, rfl, _, rfl, _, _, rfl, rfl, _, rfl, ?_⟩
  refine if_fl (decide_eq_false (by omega)) ?_
  refine ⟨_, rfl, p, C, dx, _, _, rfl, hk2.ob, T.cl, T.nX, rfl, _, rfl, _, rfl, _, rfl, _, rfl, _, rfl, hz16, ?_⟩
  rw [cut_mid hij hj]
  refine ⟨_, rfl, p, dx, _, rfl, hk2.ob, rfl, _, rfl, p, C, dx, _, _, rfl, hk2.ob, T.cl, T.nX, rfl, _, rfl, _, rfl, _, rfl, hz16, ?_⟩
  rw [cut_head]
  refine ⟨_, rfl, p, C, dx, _, _, rfl, hk2.ob, T.cl, T.nX, rfl, _, rfl, _, rfl, _, rfl, hz16, ?_⟩
  rw [cut_tail hj]
  refine ⟨_, _, rfl, rfl, ?_, ?_⟩
  · rw [mkS_length, mkS_length, List.length_take, List.length_drop, sizeLine_eq]
    omega
  rw [mkS_append]
  exact ⟨p, dx, e, sg, k, t, z, zs, _, rfl, hk2, hzs, fun H3 h3 k3 => ⟨_, rfl, q H3 h3 ((Keeps.of (s1.trans s2)).trans k3)⟩⟩
end
end Vf

set_option Elab.async false
set_option linter.all false
set_option maxRecDepth 100000
set_option maxHeartbeats 4000000
namespace Vx
open PySem PySem.W PySem.Calls PyProof.Rows
section
variable {M : Model} {A : Around} {E : Value → Shared → Prop} {h : Heap} {g : Array GenState} {d : Drawn} {t : Nat} {os : OsState}
variable {nm q : Str} {C N : Addr} {bs bm bmB : List Value} {hdct : Bool} {sn : List Str} {sub : List Value} {ab : Bool} {col : Option Bool} {dd : Option Addr} {k0 k1 k2 k3 k5 : Option Value} {B newId initId : String}
/-- what __new__ of an exception class checks: any values, any keywords -/
theorem check_newK (FB : ExcBaseFacts B newId initId bmB) (hT : ∀ X : String, bm.contains (.type X) = bmB.contains (.type X)) {rest : List Value} {kw : List (Str × Value)} {Q : Unit → Shared → Prop}
    (hC : h.get? C = some (excClassObj nm q C N bs bm hdct sn sub ab col dd k0 k1 k2 k3 k5 newId)) (hq : Q () ⟨h, g, d, t, os⟩) : wpAny M A (checkBuiltinCall newId ⟨.ref C :: rest, kw⟩) Q E ⟨h, g, d, t, os⟩ := by
  have hB : (Value.ref C :: bm).contains (.type B) = true := by
    rw [List.contains_cons, hT, FB.hasB]
    exact Bool.or_true _
  have hst := FB.noStar
  simp only [checkBuiltinCall, FB.newKind, FB.newSplit, FB.newRow]
  repeat (first | refine wpAny_loadPart_at hC ?_ | (refine wpAny_isSubtype_exc hC ?_; rw [hB]) | refine wpAny_staticBase_exc hC ?_ | refine wpAny_madeBy_exc hC ?_ | simp only [bne_self_eq_false, Bool.false_eq_true, if_false] | wp_step)
  exact hq
end
section
variable {prog : Program} {w : World} {A : Around} {E : Value → Shared → Prop} {R : Result → Shared → Prop} {h : Heap} {g : Array GenState} {d : Drawn} {t : Nat} {os : OsState}
variable {nm q : Str} {C N : Addr} {bs bm bmB : List Value} {hdct : Bool} {sn : List Str} {sub : List Value} {ab : Bool} {col : Option Bool} {dd : Option Addr} {k0 k1 k2 k3 k5 : Option Value} {B newId initId : String}
/-- the heap behind __new__ -/
abbrev madeH (h : Heap) (rest : List Value) (C : Addr) : Heap := (h.push (kdv_tup rest)).push (PySem.HandSPX.excO C h.objs.size)
theorem new_ownK (FB : ExcBaseFacts B newId initId bmB) (hT : ∀ X : String, bm.contains (.type X) = bmB.contains (.type X)) {rest : List Value} {kw : List (Str × Value)}
    (hC : h.get? C = some (excClassObj nm q C N bs bm hdct sn sub ab col dd k0 k1 k2 k3 k5 newId)) (hl : rest.length ≤ sizeLine)
    (hq : R (.ok (.ret (.ref (h.objs.size + 1)))) ⟨madeH h rest C, g, d, t, os⟩) :
    codeAny (model prog w) A (.builtin newId ⟨.ref C :: rest, kw⟩) R ⟨h, g, d, t, os⟩ := by
  have he := FB.ends
  have hB : (Value.ref C :: bm).contains (.type B) = true := by
    rw [List.contains_cons, hT, FB.hasB]
    exact Bool.or_true _
  have hA : (Value.ref C :: bm).contains (.type "AttributeError") = false := by
    rw [List.contains_cons, hT, FB.noAttr] <;> rfl
  have hN : (Value.ref C :: bm).contains (.type "NameError") = false := by
    rw [List.contains_cons, hT, FB.noName] <;> rfl
  refine codeAny_builtinAt FB.entry ?_
  unfold Builtin.«BaseException.__new__»; refine PySem.wpAt_bind ?_
  show PySem.wpAt _ _ _ (stack >>= _) _ _ _
  refine PySem.wpAt_bind (PySem.wpAt_stack fun p below => PySem.wpAt_of_wpAny ?_)
  wp_walk
  refine PySem.wpAt_of_wpAny ?_
  rw [FB.owner]
  repeat (first | with_reducible refine wpAny_madeHere_exc FB.canon hC ?_ | with_reducible refine wpAny_loadPart_at hC ?_ | (with_reducible refine wpAny_isSubtype_exc hC ?_; first | rw [hB] | rw [hA] | rw [hN]) | wp_step)
  show R _ _
  rw [Heap.size_push]
  exact hq
theorem type_callK (FB : ExcBaseFacts B newId initId bmB) (hT : ∀ X : String, bm.contains (.type X) = bmB.contains (.type X)) {rest : List Value} {kw : List (Str × Value)} {fI : Addr} {Q : Fin → Shared → Prop}
    (hC : h.get? C = some (excClassObj nm q C N bs bm hdct sn sub ab col dd k0 k1 k2 k3 k5 newId)) (hl : rest.length ≤ sizeLine)
    (hi : Looks (model prog w) h (typeLookup (.ref C) "__init__") (some (.ref fI))) (hb : ∀ self, Looks (model prog w) h (bindSpecial (.ref fI) self) (.ref fI, [self]))
    (hq : codeAny (model prog w) A (.call (.ref fI) ⟨.ref (h.objs.size + 1) :: rest, kw⟩)
      (fun r s' => match r with | .ok (.ret v) => v = .none ∧ Q (.done (.ret (.ref (h.objs.size + 1)))) s' | .ok _ => False | .error e => E e s') ⟨madeH h rest C, g, d, t, os⟩) :
    wpAny (model prog w) A (Builtin.«type.__call__» ⟨.ref C :: rest, kw⟩) Q E ⟨h, g, d, t, os⟩ := by
  repeat (first | with_reducible refine wpAny_loadPart_at hC ?_ | with_reducible refine wpAny_madeBy_exc hC ?_ | wp_step)
  refine codeAny_call_builtin_code (Code.quiet_builtin _ FB.quiet) (check_newK FB hT hC ?_)
  refine new_ownK FB hT hC hl ?_
  show wpAny _ _ _ _ _ _
  have k : ∀ b o, h.get? b = some o → (madeH h rest C).get? b = some o := fun b o e => Heap.get?_push_of_some _ (Heap.get?_push_of_some _ e)
  have hC1 := k _ _ hC
  have hg : (madeH h rest C).get? (h.objs.size + 1) = some (PySem.HandSPX.excO C h.objs.size) := by heap_get
  have hcC : (Value.ref C :: bm).contains (.ref C) = true := by simp
  have i1 := hi.keeps k
  have b1 := (hb (.ref (h.objs.size + 1))).keeps k
  unfold isInstance
  repeat (first | with_reducible refine wpAny_loadPart_at hg ?_ | (with_reducible refine wpAny_isSubtype_exc hC1 ?_; rw [hcC]) | wp_step)
  show wpAny _ _ (typeLookup (.ref C) _) _ _ _
  refine i1.at ?_
  refine wpAny_holding (wpAny_bind (b1.at ?_))
  refine wpAny_bind (wpAny_call (codeAny_mono hq fun r s' z => ?_))
  rcases r with e | (v | _ | _ | _) <;> first | exact z | exact z.elim | skip
  obtain ⟨rfl, z⟩ := z
  first
    | exact wpAny_pure (wpAny_pure z)
    | (wp_walk; exact z)
theorem call_ownK (FB : ExcBaseFacts B newId initId bmB) (hT : ∀ X : String, bm.contains (.type X) = bmB.contains (.type X)) {rest : List Value} {kw : List (Str × Value)} {fI : Addr}
    (hC : h.get? C = some (excClassObj nm q C N bs bm hdct sn sub ab col dd k0 k1 k2 k3 k5 newId)) (hl : rest.length ≤ sizeLine)
    (hi : Looks (model prog w) h (typeLookup (.ref C) "__init__") (some (.ref fI))) (hb : ∀ self, Looks (model prog w) h (bindSpecial (.ref fI) self) (.ref fI, [self]))
    (hq : codeAny (model prog w) (A.under (.builtin "type.__call__" ⟨.ref C :: rest, kw⟩)) (.call (.ref fI) ⟨.ref (h.objs.size + 1) :: rest, kw⟩) (InitBack (h.objs.size + 1) R) ⟨madeH h rest C, g, d, t, os⟩) :
    codeAny (model prog w) A (.call (.ref C) ⟨rest, kw⟩) R ⟨h, g, d, t, os⟩ := by
  have f1 := tc_lookup
  have f2 := tc_bind (.ref C)
  have f3 := tc_sub
  have hTy : (⟨h, g, d, t, os⟩ : Shared).TypeIs (.ref C) "type" := ⟨_, hC, rfl⟩
  have ck : ∀ {A' : Around} {E' : Value → Shared → Prop} {Q : Unit → Shared → Prop}, Q () ⟨h, g, d, t, os⟩ → wpAny (model prog w) A' (checkBuiltinCall "type.__call__" ⟨.ref C :: rest, kw⟩) Q E' ⟨h, g, d, t, os⟩ := by
    intro A' E' Q hq
    simp only [checkBuiltinCall, tc_kind, tc_split]
    repeat (any_goals (first | assumption | with_reducible refine wpAny_loadPart_at hC ?_ | with_reducible refine wpAny_onRaise ?_ | with_reducible refine wpAny_map ?_ | wp_step))
  refine codeAny_of_tree ?_
  show wpAny _ _ (callAny (.ref C) _) _ _ _
  repeat (any_goals (first | assumption | with_reducible refine wpAny_loadPart_at hC ?_ | wp_step))
  refine ⟨rfl, ?_⟩
  refine codeAny_call_builtin_at (Code.quiet_builtin _ (by decide +kernel)) entry_typeCall (ck (type_callK FB hT hC hl hi hb ?_))
  refine codeAny_mono hq fun r s' z => ?_
  rcases r with e | (v | _ | _ | _) <;> exact z
end
end Vx

set_option Elab.async false
set_option linter.all false
set_option maxRecDepth 100000
set_option maxHeartbeats 4000000
namespace L2
namespace Vx
open PySem PySem.Spec PyProof.Rows _root_.Vx
abbrev exTail : List Value := [.type "Exception", .type "BaseException", .type "object"]
theorem exTail_ne {l : List Value} (e : PySem.W.excTail exTail l = true) : l.isEmpty = false := by
  cases l with
  | nil => exact absurd e (by decide)
  | cons _ _ => rfl
section
open PySem.W PySem.Calls Builtin Builtin.ObjectAttr
variable {prog : Program} {w : World} {A : Around} {E : Value → Shared → Prop} {R : Result → Shared → Prop} {hp : Heap} {g : Array GenState} {d : Drawn} {t : Nat} {os : OsState}
/-- self.name = v on an exception of an own class over Exception that has no dict yet -/
theorem osaE {K : W.Frag} {name : Str} {tk : Tok} {v : Value} {x C : Addr} {fv : Array Value} {cd : ClassData}
    (X : K.In hp) (hx : hp.get? x = some { cls := .ref C, data := .fields fv }) (hcd : W.clsIn K C = some cd) (hm : excTail exTail cd.mro = true) (hh : cd.hasDict = true) (ha : W.findIn K (.ref C) name = some none)
    (hq : ∀ h' tk' dx, (∀ b o, b ≠ x → hp.get? b = some o → h'.get? b = some o) → hp.objs.size ≤ dx → dx ≠ x → h'.get? x = some { cls := .ref C, dict := some dx, data := .fields fv } →
      h'.Ns1 dx (fun y => if y = name then some v else none) → R (.ok (.ret .none)) ⟨h', g, d, tk', os⟩) :
    codeAny (model prog w) A (.call (.builtin "object.__setattr__") ⟨[.ref x, .str name tk, v], []⟩) R ⟨hp, g, d, t, os⟩ := by
  have SF := F.store_object
  have I : W.InstAt hp x { cls := .ref C, data := .fields fv } C none := ⟨hx, rfl, rfl, trivial⟩
  have ne := exTail_ne hm
  have hob : cd.mro.contains (.type "object") = true := (excTail_contains "object" _ hm).trans (by decide +kernel)
  have hxs : x ≠ hp.objs.size := Nat.ne_of_lt (Heap.lt_size hx)
  have hmi : W.mroIn K C (.type "object") = some true := by
    unfold W.mroIn
    rw [hcd, Option.bind_some, if_neg (by rw [ne]; decide), hob]
  have sub : W.Looks (model prog w) hp (isInstance (.ref x) (.type "object")) true := I.type.andThen (W.looks_mroIn X hmi)
  refine codeAny_call_builtin SF.slot.plain SF.entry (@W.check_slot (model prog w) _ _ ⟨hp, g, d, t, os⟩ "object.__setattr__" "object" "__setattr__" (.ref x) [.str name tk, v] [] _ SF.kind SF.split sub (SF.args (.ref x) (.str name tk) v) ?_)
  have hmr : W.Looks (model prog w) hp (mroOf (.ref C)) cd.mro := (W.looks_clsIn X hcd).andThen .now
  have L3 : W.Looks (model prog w) hp (storeTaker? none) none := .now
  have hcls : W.Looks (model prog w) hp (classData C) cd := W.looks_clsIn X hcd
  rw [W.osa_eq, refuse_eq]
  refine wpAny_bind (wpAny_bind (I.type.at (wpAny_bind (hmr.at ?_))))
  rw [excTail_pass _ (F.store_Exception.passes _) _ hm]
  refine wpAny_pure (wpAny_bind (I.type.at (wpAny_bind ((W.looks_findIn X ha).at (wpAny_bind (L3.at ?_))))))
  show wpAny _ _ (storeInOwnDict (.ref x) (.ref C) (.str name tk) name v false) _ _ _
  obtain ⟨nm, bs, mro, ns, qn, hd, sn, sb, ab, col, del⟩ := cd
  dsimp only at hh
  subst hh
  unfold storeInOwnDict ownDictForStores
  repeat (first | with_reducible refine PySem.HandSPX.store_in_new ?_ ?_ | with_reducible refine wpAny_loadPart_at hx ?_ | with_reducible refine hcls.at ?_ | wp_step)
  · exact ⟨_, #[], _, (Heap.get?_update_ne _ _ _ _ hxs.symm).trans (Heap.get?_push_at rfl rfl), rfl, fun e he => absurd he (by simp), fun _ => rfl⟩
  · intro h' tk' hn' hs
    have hx1 : (hp.push { cls := .type "dict", data := .dict #[] }).get? x = some { cls := .ref C, data := .fields fv } := Heap.get?_push_of_some _ hx
    refine hq h' tk' hp.objs.size (fun b o hb ho => ?_) (Nat.le_refl _) hxs.symm ?_ hn'
    · exact (hs.2 b (Nat.ne_of_lt (Heap.lt_size ho))).trans ((Heap.get?_update_ne _ _ _ _ hb).trans (Heap.get?_push_of_some _ ho))
    · exact (hs.2 x hxs).trans (Heap.get?_update_self _ hx1 rfl)
end
/-- what the written part says of an own exception class over Exception -/
structure OexE (K : PySem.W.Frag) (C : Addr) : Prop where
  cls : ∃ nm q N bs bm sn sub ab col dd k0 k1 k2 k3 k5, K.lookup C = some (excClassObj nm q C N bs bm true sn sub ab col dd k0 k1 k2 k3 k5 "Exception.__new__") ∧ PySem.W.excTail exTail bm = true
  sa : PySem.W.findIn K (.ref C) "__setattr__" = some (some (.builtin "object.__setattr__"))
  ga : PySem.W.findIn K (.ref C) "__getattribute__" = some (some (.builtin "BaseException.__getattribute__"))
  gg : PySem.W.findIn K (.ref C) "__getattr__" = some none
  ca : PySem.W.findIn K (.ref C) "__class__" = some (some (.builtin "object.__class__"))
  cn : PySem.W.specialIn K (.builtin "object.__class__") "__get__" = some (some (.builtin "getset_descriptor.__get__"))
  ct : PySem.W.takesIn K (.builtin "object.__class__") = some true
  cm : PySem.W.mroIn K C (.type "object") = some true
  exC : PySem.W.subIn K (.ref C) (.type "BaseException") = some true
  tyC : PySem.W.typeIn K (.ref C) = some (.type "type")
  hdC : PySem.W.hasDictIn K C = true
  kC : PySem.W.keepIn K (.ref C) = true
section
variable {X : Cx} {pins : List (Addr × Obj)} {σ : St} {H : Hp} {s : Shared} {a C dx : Addr} {f : Str} {y : V} {u : Value} {fs : List (Str × V)} {Q : Unit → Shared → Prop} {E : Value → Shared → Prop} {A : Around}
theorem ost_newE (T : OexE X.K C) (I : Inv X pins σ H s) (e : H a = some (exo a C none)) (hno : PySem.W.findIn X.K (.ref C) f = some none) (ry : RelV y u)
    (h : ∀ dx s', H dx = none → dx ≠ a → Inv X pins σ (upd (upd H dx (exd dx [(f, y)])) a (exo a C (some dx))) s' → Q () s') : wpAny (model X.prog X.w) A (setAttr (.ref a) f u) Q E s := by
  obtain ⟨nm, q, N, bs, bm, sn, sub, ab, col, dd, k0, k1, k2, k3, k5, hC, hbm⟩ := T.cls
  have hcl : PySem.W.clsIn X.K C = some { name := nm, bases := bs, mro := .ref C :: bm, ns := N, qualname := q, hasDict := true, slotNames := sn, subclasses := sub, abstract := ab, collection := col, hasDel := false } := by
    unfold PySem.W.clsIn
    rw [hC] <;> rfl
  obtain ⟨t1, ho⟩ := exo_at I.hok e
  obtain ⟨hp, g, d, t, os⟩ := s
  refine PySem.W.set_plain I.kIn (ox := { cls := .ref C, dict := none, data := .fields #[.ref t1, .none, .none, .none, .bool false, .none] }) (od := none) ⟨ho, rfl, rfl, trivial⟩ T.sa ?_
  refine osaE I.kIn ho hcl (show PySem.W.excTail exTail (.ref C :: bm) = true from hbm) rfl hno (fun h' tk' dx k dn dne hx hn => ?_)
  have hnd : H dx = none := I.hok.fresh dn
  have nd : ∀ {b : Addr} {o : Obj}, hp.get? b = some o → b ≠ dx := fun {b o} q => Nat.ne_of_lt (Nat.lt_of_lt_of_le (Heap.lt_size q) dn)
  have na : ∀ {b : Addr}, H b = none → b ≠ a := fun {b} n z => by rw [z, e] at n; cases n
  have U : Un X.fs [] H (upd (upd H dx (exd dx [(f, y)])) a (exo a C (some dx))) hp h' := by
    refine ⟨fun b o q n _ _ => k b o (na n) q, fun b o q n _ _ => ⟨o.slots, k b o (na n) q⟩, fun b o q n _ => ?_, fun b o q _ => ?_, fun b xs q => ?_, fun b o v q => ?_, fun b ps q => ⟨#[], ?_⟩⟩
    · rw [upd_ne (na n), upd_ne (nd q)]; exact n
    · by_cases hb : b = a
      · exact ⟨_, by rw [hb]; exact hx⟩
      · exact ⟨o, k b o hb q⟩
    · rw [upd_ne (at_ne e q exo_tup), upd_ne (ne_of_none q hnd)]; exact q
    · rw [upd_ne (at_ne e q exo_frz), upd_ne (ne_of_none q hnd)]; exact q
    · rw [upd_ne (at_ne e q exo_tbl), upd_ne (ne_of_none q hnd), q]; simp
  refine h dx _ hnd dne (I.un (t' := tk') U fun b o q => ?_)
  by_cases hb : b = a
  · subst hb
    rw [upd_same] at q
    cases q
    exact exo_ok hx
  · rw [upd_ne hb] at q
    by_cases hd : b = dx
    · subst hd
      rw [upd_same] at q
      cases q
      exact exd_ok hn (relO_put (fs := []) ry fun g => True.intro)
    · rw [upd_ne hd] at q
      refine (I.hok b o q).stay (fun c v hc z => k c v ?_ z) (fun c hc => ?_) (fun c xs hc => ?_)
      · rcases hc with hc | hc
        · rw [hc]; exact hb
        · exact at_ne e hc exo_own
      · rw [upd_ne (at_ne e hc exo_own), upd_ne (ne_of_none hc hnd)]; exact hc
      · rw [upd_ne (at_ne e hc exo_tup), upd_ne (ne_of_none hc hnd)]; exact hc
end
/-- self.f = e in __init__ -/
def tOstE (K : PySem.W.Frag) (f : Str) (to te : TE) : TS := fun D σ H => te σ H fun y H1 => to σ H1 fun x H2 => ∃ a C : Addr, x = .ref a ∧ OexE K C ∧ PySem.W.findIn K (.ref C) f = some none ∧
  H2 a = some (exo a C none) ∧ ∀ dx, H2 dx = none → dx ≠ a → D.nx σ (upd (upd H2 dx (exd dx [(f, y)])) a (exo a C (some dx)))
theorem ps_ostE {X : Cx} {o e : Expr} {to te : TE} {f : Str} {p' pos : Pos} (ho : PE X o to) (he : PE X e te) (hs : swapsWith e (some (.Attribute o f p')) pos.line X.env = pure false := by rfl) : PS X (.Assign [.Attribute o f p'] e pos) (tOstE X.K f to te) := by
  refine ⟨fun pins s σ H D I h => ?_⟩
  refine plainObj_wpAny_Assign_Attribute (thn (he.run pins s σ H _ I h) fun v s1 ⟨y, H1, I1, r1, q1⟩ => thn (ho.run pins s1 σ H1 _ I1 q1) fun u s2 ⟨x, H2, I2, r2, a, C, ex, T, hno, ea, q⟩ => ?_) hs
  subst ex
  obtain rfl : u = Value.ref a := r2
  exact ost_newE T I2 ea hno r1 fun dx s' n ne J => ⟨σ, _, J, q dx n ne⟩
/-- what __init__ of such a class promises -/
def spInitE (C : Addr) (f : Str) : Sp := fun vs H Q _ => ∃ (a : Addr) (v : V), vs = [.ref a, v] ∧ H a = some (exo a C none) ∧ ∀ dx, H dx = none → dx ≠ a → Q .non (upd (upd H dx (exd dx [(f, v)])) a (exo a C (some dx)))
section
variable {X : Cx} {pins : List (Addr × Obj)} {σ : St} {H : Hp} {s : Shared} {C fI : Addr} {k : Nat} {fdI : FuncData} {f : Str}
/-- the class: its facts, its __init__ and the promise of that -/
structure ExK (P : Program) (w : World) (K : PySem.W.Frag) (mg : Str → Option Value) (base : Heap) (C : Addr) (f : Str) (k : Nat) : Prop where
  T : OexE K C
  no : PySem.W.findIn K (.ref C) f = some none
  ini : ∃ (fI : Addr) (fdI : FuncData), PySem.W.findIn K (.ref C) "__init__" = some (some (.ref fI)) ∧ PySem.W.typeIn K (.ref fI) = some (.type "function") ∧
    FnOk P w K mg base CX0 k fI fdI ["self", f] (spInitE C f) ∧
    (∀ (s : Shared) (a u : Value), BindsTo s fdI ⟨[a, u], []⟩ [("self", a), (f, u)]) ∧ ∀ (s : Shared) (a u : Value), BindsTo s fdI ⟨[a], [(f, u)]⟩ [("self", a), (f, u)]
/-- what holds behind C(v), C(f=v): a new exception at a, its dict at d -/
def MadeE (C : Addr) (f : Str) (v : V) (H : Hp) (Q : VK) : Prop := ∀ a d H', H a = none → H d = none → d ≠ a → Same H H' → H' a = some (exo a C (some d)) → H' d = some (exd d [(f, v)]) → Q (.ref a) H'
theorem run_exE {Q : VK} {u : Value} {v : V} {rest : List Value} {kw : List (Str × Value)} (Z : ExK X.prog X.w X.K X.mg X.base C f k) (hr : Room (k + 1) X.A) (I : Inv X pins σ H s) (r : RelV v u) (hk : (rest = [u] ∧ kw = []) ∨ (rest = [] ∧ kw = [(f, u)]))
    (h : MadeE C f v H Q) : wpAny (model X.prog X.w) X.A (call (.ref C) rest kw) (EP X pins σ Q) X.xe s := by
  obtain ⟨T, _, fI, fdI, iC, tI, F1, hb1, hb2⟩ := Z
  obtain ⟨nm, q, N, bs, bm, sn, sub, ab, col, dd, k0, k1, k2, k3, k5, hC, hbm⟩ := T.cls
  obtain ⟨hp, g, dr, tk, os⟩ := s
  have hsz : hp.objs.size ≤ hp.objs.size + 1 := Nat.le_succ _
  have hn : H (hp.objs.size + 1) = none := I.hok.fresh hsz
  have kk : ∀ b o, hp.get? b = some o → (madeH hp rest C).get? b = some o := fun b o e => Heap.get?_push_of_some _ (Heap.get?_push_of_some _ e)
  have hget : (madeH hp rest C).get? (hp.objs.size + 1) = some (PySem.HandSPX.excO C hp.objs.size) := by heap_get
  have I2 : Inv X pins σ (upd H (hp.objs.size + 1) (exo (hp.objs.size + 1) C none)) ⟨madeH hp rest C, g, dr, tk, os⟩ :=
    I.laid (t' := tk) (a := hp.objs.size + 1) (o := exo (hp.objs.size + 1) C none) (h' := madeH hp rest C) kk hsz (exo_ok hget)
  have hl : rest.length ≤ sizeLine := by
    rcases hk with ⟨e, _⟩ | ⟨e, _⟩ <;> (rw [e, sizeLine_eq]; simp)
  have hq : spInitE C f [.ref (hp.objs.size + 1), v] (upd H (hp.objs.size + 1) (exo (hp.objs.size + 1) C none)) (fun x H' => x = .non ∧ Q (.ref (hp.objs.size + 1)) H') (fun _ _ _ => False) := by
    refine ⟨_, v, rfl, upd_same, fun dx n ne => ⟨rfl, ?_⟩⟩
    have nd : H dx = none := by rw [upd_ne ne] at n; exact n
    refine h _ dx _ hn nd ne (fun b o e => ?_) upd_same (by rw [upd_ne ne, upd_same])
    rw [upd_ne (ne_of_none e hn), upd_ne (ne_of_none e nd), upd_ne (ne_of_none e hn)]
    exact e
  have hbt : ∀ s' : Shared, BindsTo s' fdI ⟨.ref (hp.objs.size + 1) :: rest, kw⟩ ((["self", f] : List Str).zip [.ref (hp.objs.size + 1), u]) := fun s' => by
    rcases hk with ⟨e1, e2⟩ | ⟨e1, e2⟩ <;> subst e1 e2
    · exact hb1 s' _ _
    · exact hb2 s' _ _
  refine wpAny_call (call_ownK PySem.F.excBase_Exception (fun Y => PySem.W.excTail_contains Y bm hbm) (I.kIn _ _ hC) hl (PySem.W.looks_findIn I.kIn iC) (fun self => PySem.W.bind_fn I.kIn self tI)
    (codeAny_mono (F1.run _ X.stack _ _ ⟨Value.ref (hp.objs.size + 1) :: rest, kw⟩ [Value.ref (hp.objs.size + 1), u] [V.ref (hp.objs.size + 1), v] _ (fun _ _ _ => False) (hr.make C rest kw) (I2.env0.make C rest kw) (hbt _) (.cons rfl (.cons r .nil)) hq) fun r s' hq' => ?_))
  cases r with
  | error e => exact hq'.elim
  | ok fl =>
    cases fl with
    | ret u =>
      obtain ⟨v', H', I3, rv, ev, q3⟩ := I2.after hq'
      subst ev
      exact ⟨rv, ⟨V.ref (hp.objs.size + 1), H', I3, rfl, q3⟩⟩
    | next => exact False.elim hq'
    | brk => exact False.elim hq'
    | cont => exact False.elim hq'
/-- C(e) -/
def tExE (C : Addr) (f : Str) (ta : TE) : TE := fun σ H Q => ta σ H fun v H1 => MadeE C f v H1 Q
theorem pe_exE {x : Str} {e : Expr} {te : TE} {p pos : Pos} (Z : ExK X.prog X.w X.K X.mg X.base C f k) (hr : Room (k + 1) X.A) (hm : X.mg x = some (.ref C)) (he : PE X e te) (hg : Gl X x := by rfl) (hdb : (x == ("__debug__" : Str)) = false := by decide)
    (hs : starEach [e] X.env = (false, eval e X.env) :: starEach [] X.env := by rfl) (hpl : (backTo pos (starEach [] X.env)).any (·.1) = false := by rfl) :
    PE X (.Call (.Name x p) [e] [] pos) (tExE C f te) := by
  refine ⟨fun pins s σ H Q I h => ?_⟩
  refine wpAny_Call_Name_kw (ld_glob I hg hm ?_ hdb)
  refine PySem.W.callWith_K (h₀ := X.base) I.ok.mod.kin Z.T.kC ?_ hs hpl
  rw [hs]
  show wpAny _ _ (spliced ((false, eval e X.env) :: backTo pos (starEach [] X.env))) _ _ s
  refine Calls.spliced_cons (thn (he.run pins s σ H _ I h) fun u s1 ⟨v, H1, I1, r1, q1⟩ => ?_)
  refine Calls.spliced_nil ⟨I1.kIn, ?_⟩
  show wpAny _ _ (call (.ref C) [u] []) _ _ _
  exact run_exE Z hr I1 r1 (.inl ⟨rfl, rfl⟩) q1
/-- C(f=e) -/
theorem pe_exK {x : Str} {e : Expr} {te : TE} {p pos kp : Pos} (Z : ExK X.prog X.w X.K X.mg X.base C f k) (hr : Room (k + 1) X.A) (hm : X.mg x = some (.ref C)) (he : PE X e te) (hg : Gl X x := by rfl) (hdb : (x == ("__debug__" : Str)) = false := by decide) :
    PE X (.Call (.Name x p) [] [⟨some f, e, kp⟩] pos) (tExE C f te) := by
  refine ⟨fun pins s σ H Q I h => ?_⟩
  refine wpAny_Call_Name_kw (ld_glob I hg hm ?_ hdb)
  refine PySem.W.callWith_KW0 (h₀ := X.base) I.ok.mod.kin Z.T.kC rfl ?_
  show wpAny _ _ (evalAll ((do let v ← eval e X.env; standAt pos; pure v) :: [])) _ _ s
  refine wpAny_evalAll_cons (wpAny_bind (thn (he.run pins s σ H _ I h) fun u s1 ⟨v, H1, I1, r1, q1⟩ => wpAny_bind (wpAny_standAt (wpAny_pure ?_))))
  refine wpAny_evalAll_nil ⟨I1.kIn, ?_⟩
  show wpAny _ _ (call (.ref C) [] [(f, u)]) _ _ _
  exact run_exE Z hr I1 r1 (.inr ⟨rfl, rfl⟩) q1
/-- e.f of such an exception -/
def tAtE (K : PySem.W.Frag) (f : Str) (te : TE) : TE := fun σ H Q => te σ H fun x H1 => ∃ (a C d : Addr) (fs : List (Str × V)) (v : V), x = .ref a ∧ OexE K C ∧ PySem.W.findIn K (.ref C) f = some none ∧ H1 a = some (exo a C (some d)) ∧ H1 d = some (exd d fs) ∧ fs.lookup f = some v ∧ Q v H1
theorem inst_at {a C d : Addr} {fs : List (Str × V)} (I : Inv X pins σ H s) (ha : H a = some (exo a C (some d))) (hd : H d = some (exd d fs)) :
    ∃ (ox od : Obj) (mA : Str → Option Value), PySem.W.InstAt s.heap a ox C (some od) ∧ (∀ name, PySem.W.lookIn name od = some (mA name)) ∧ ∀ g, RelO (fs.lookup g) (mA g) := by
  obtain ⟨t1, ho⟩ := exo_at I.hok ha
  obtain ⟨mA, hns, rel⟩ := exd_at I.hok hd
  obtain ⟨od, hod, hl⟩ := lookIn_ns hns
  exact ⟨_, od, mA, ⟨ho, rfl, rfl, hod⟩, hl, rel⟩
theorem pe_atE {e : Expr} {te : TE} {pos : Pos} (he : PE X e te) (hb : attributeBase e f X.env (eval e X.env) = eval e X.env := by rfl) : PE X (.Attribute e f pos) (tAtE X.K f te) := by
  refine ⟨fun pins s σ H Q I h => ?_⟩
  refine attr_of hb (thn (he.run pins s σ H _ I h) fun u s1 hh => ?_)
  obtain ⟨x, H1, I1, rx, a, C, d, fs, v, ex, T, hno, ha, hd, hl, q⟩ := hh
  subst ex
  obtain rfl : u = Value.ref a := rx
  obtain ⟨ox, od, mA, J, hlk, rel⟩ := inst_at I1 ha hd
  obtain ⟨u, hu, ru⟩ := RelO.some_of (v := v) (o := mA f) (by rw [← hl]; exact rel f)
  exact PySem.HandSPX.exc_get I1.kIn J T.ga T.gg T.exC (PySem.W.findObj_own T.hdC hno rfl (by rw [hlk, hu])) (handed_of ru) ⟨v, H1, I1.tok _, ru, q⟩
/-- isinstance(e, c) -/
def rIsX (K : PySem.W.Frag) : List V → Hp → VK → Prop := fun xs H Q => ∃ (a D : Addr) (dd : Option Addr) (c : V) (cv : Value) (b : Bool), xs = [.ref a, c] ∧ ClsV c cv ∧ OexE K D ∧ H a = some (exo a D dd) ∧ (∀ d, dd = some d → ∃ fs, H d = some (exd d fs)) ∧ PySem.W.kitOne K (.ref D) cv = some b ∧ Q (.bl b) H
theorem call_isX : CallR X (.builtin "isinstance") (rIsX X.K) := by
  intro pins s σ H xs us Q I r h
  obtain ⟨a, D, dd, c, cv, b, rfl, k, T, ha, hd, e, q⟩ := h
  obtain ⟨u1, u2, rfl, r1, r2⟩ := vals2 r
  have e2 := k.eq r2
  subst e2
  cases (show u1 = Value.ref a from r1)
  have hcl : (PySem.W.clsIn X.K D).isSome = true := by
    obtain ⟨cd, hc, _⟩ := PySem.W.any_some T.hdC
    rw [hc] <;> rfl
  have hne : Value.ref a ≠ .builtin "__main__.__loader__#opaque" := fun z => nomatch z
  cases dd with
  | none =>
    obtain ⟨t1, ho⟩ := exo_at I.hok ha
    exact PySem.W.kia_one (PySem.W.kitx_exc (od := none) hcl T.ga T.gg T.exC T.ca T.cn T.ct T.cm) I.kIn ⟨ho, rfl, rfl, trivial⟩ e hne fun tk => ⟨.bl b, H, I.tok tk, rfl, q⟩
  | some d =>
    obtain ⟨fs, hd⟩ := hd d rfl
    obtain ⟨ox, od, mA, J, _, _⟩ := inst_at I ha hd
    exact PySem.W.kia_one (PySem.W.kitx_exc hcl T.ga T.gg T.exC T.ca T.cn T.ct T.cm) I.kIn J e hne fun tk => ⟨.bl b, H, I.tok tk, rfl, q⟩
end
/-- an own class over Exception without an __init__ of its own -/
structure Ex0 (K : PySem.W.Frag) (C : Addr) : Prop where
  T : OexE K C
  ini : PySem.W.findIn K (.ref C) "__init__" = some (some (.builtin "Exception.__init__"))
section
variable {X : Cx} {pins : List (Addr × Obj)} {σ : St} {H : Hp} {s : Shared} {C : Addr}
theorem run_ex0 {Q : Value → Shared → Prop} (Z : Ex0 X.K C) (I : Inv X pins σ H s)
    (h : ∀ (h' : Heap) (t1 : Addr), (∀ b o, s.heap.get? b = some o → h'.get? b = some o) → h'.get? (s.heap.objs.size + 1) = some ({ cls := .ref C, dict := none, data := .fields #[.ref t1, .none, .none, .none, .bool false, .none] } : Obj) → Q (.ref (s.heap.objs.size + 1)) { s with heap := h' }) :
    wpAny (model X.prog X.w) X.A (call (.ref C) []) Q X.xe s := by
  obtain ⟨nm, q, N, bs, bm, sn, sub, ab, col, dd, k0, k1, k2, k3, k5, hC, hbm⟩ := Z.T.cls
  obtain ⟨hp, g, dr, tk, os⟩ := s
  exact PySem.W.call_B PySem.F.excBase_Exception (fun Y => PySem.W.excTail_contains Y bm hbm) (I.kIn _ _ hC) (PySem.W.looks_findIn I.kIn Z.ini) (by simp) fun h' k e _ => h h' _ k e
/-- C() -/
theorem pe_ex0 {x : Str} {p pos : Pos} (Z : Ex0 X.K C) (hm : X.mg x = some (.ref C)) (hg : Gl X x := by rfl) (hdb : (x == ("__debug__" : Str)) = false := by decide) :
    PE X (.Call (.Name x p) [] [] pos) (fun _ H Q => ∀ a, H a = none → Q (.ref a) (upd H a (exo a C none))) := by
  refine ⟨fun pins s σ H Q I h => ?_⟩
  refine wpAny_Call_Name_kw (ld_glob I hg hm ?_ hdb)
  refine PySem.W.callWith_K0 (K := X.K) I.kIn Z.T.kC ?_
  have hn : H (s.heap.objs.size + 1) = none := I.hok.fresh (Nat.le_succ _)
  exact run_ex0 Z I fun h' t1 k e => ⟨.ref (s.heap.objs.size + 1), _, I.laid (t' := s.toks) (a := s.heap.objs.size + 1) k (Nat.le_succ _) (exo_ok e), rfl, h _ hn⟩
/-- raise C(): what makes it -/
theorem pmk_ex0 {x : Str} {p pos : Pos} (Z : Ex0 X.K C) (hm : X.mg x = some (.ref C)) (hg : Gl X x := by rfl) (hdb : (x == ("__debug__" : Str)) = false := by decide) :
    PMk X (.Call (.Name x p) [] [] pos) (fun _ H Q => Q (.ref C) none H) := by
  intro pins s σ H Q I h
  refine wpAny_Call_Name_kw (ld_glob I hg hm ?_ hdb)
  refine PySem.W.callWith_K0 (K := X.K) I.kIn Z.T.kC ?_
  have hn : H (s.heap.objs.size + 1) = none := I.hok.fresh (Nat.le_succ _)
  refine run_ex0 Z I fun h' t1 k e => ?_
  have ne : s.heap.get? (s.heap.objs.size + 1) = none := by
    cases q : s.heap.get? (s.heap.objs.size + 1) with
    | none => rfl
    | some o => exact absurd (Nat.lt_of_succ_lt (Heap.lt_size q)) (Nat.lt_irrefl _)
  exact ⟨s.heap.objs.size + 1, _, _, s, H, .ref C, none, rfl, I, k, ne, e, ⟨rfl, rfl⟩, rfl, rfl, hn, rfl, I.bare, raises_own Z.T.exC Z.T.tyC, h⟩
/-- isinstance(e, c), e pinned -/
def rIsP (K : PySem.W.Frag) (a D : Addr) : List V → Hp → VK → Prop := fun xs H Q => ∃ (c : V) (cv : Value) (b : Bool), xs = [.ref a, c] ∧ ClsV c cv ∧ PySem.W.kitOne K (.ref D) cv = some b ∧ Q (.bl b) H
theorem call_isP {p : Addr × Obj} {D : Addr} (T : OexE X.K D) (hp : p ∈ X.pn) (hz : Zc (.ref D) none p.2) (hf : ∃ vs, p.2.data = .fields vs) : CallR X (.builtin "isinstance") (rIsP X.K p.1 D) := by
  intro pins s σ H xs us Q I r h
  obtain ⟨c, cv, b, rfl, k, e, q⟩ := h
  obtain ⟨u1, u2, rfl, r1, r2⟩ := vals2 r
  have e2 := k.eq r2
  subst e2
  cases (show u1 = Value.ref p.1 from r1)
  have hcl : (PySem.W.clsIn X.K D).isSome = true := by
    obtain ⟨cd, hc, _⟩ := PySem.W.any_some T.hdC
    rw [hc] <;> rfl
  obtain ⟨hget, _⟩ := I.pin p (List.mem_append_left _ hp)
  obtain ⟨vs, hv⟩ := hf
  have J : PySem.W.InstAt s.heap p.1 p.2 D none := by
    refine ⟨hget, hz.1, ?_, ?_⟩
    · unfold PySem.W.notCls
      rw [hv] <;> rfl
    · rw [hz.2]; trivial
  exact PySem.W.kia_one (PySem.W.kitx_exc (od := none) hcl T.ga T.gg T.exC T.ca T.cn T.ct T.cm) I.kIn J e (fun z => nomatch z) fun tk => ⟨.bl b, H, I.tok tk, rfl, q⟩
end
end Vx
end L2

set_option Elab.async false
set_option linter.all false
set_option maxRecDepth 100000
set_option maxHeartbeats 4000000
namespace L2
namespace Vx
open PySem PySem.Spec PyProof.Rows _root_.Vx
/-! ### raise C(e), C an own class over Exception with an __init__ that stores its argument -/
section
variable {X : Cx} {C : Addr} {f : Str} {k : Nat} {x : Str} {e : Expr} {te : TE} {p pos : Pos}
def tMkE (C : Addr) (f : Str) (te : TE) : St → Hp → XK → Prop := fun σ H Q => tCons te tNil σ H fun vs H1 => ∃ v, vs = [v] ∧ ∀ d, H1 d = none → Q (.ref C) (some d) (upd H1 d (.xd [(f, v)]))
theorem pmk_exE (Z : ExK X.prog X.w X.K X.mg X.base C f k) (hr : Room (k + 1) X.A) (hm : X.mg x = some (.ref C)) (he : PE X e te) (hg : Gl X x := by rfl) (hdb : (x == ("__debug__" : Str)) = false := by decide)
    (hst : starEach [e] X.env = (false, eval e X.env) :: starEach [] X.env := by rfl) (hpl : (backTo pos (starEach [] X.env)).any (·.1) = false := by rfl) :
    PMk X (.Call (.Name x p) [e] [] pos) (tMkE C f te) := by
  intro pins s σ H Q I h
  obtain ⟨T, _, fI, fdI, iC, tI, F1, hb1, hb2⟩ := Z
  obtain ⟨nm, q, N, bs, bm, sn, sub, ab, col, dd, k0, k1, k2, k3, k5, hC, hbm⟩ := T.cls
  refine wpAny_Call_Name_kw (ld_glob I hg hm ?_ hdb)
  refine PySem.W.callWith_K (h₀ := X.base) I.ok.mod.kin T.kC (thn ((pa_cons (hs := hst) he pa_nil).run pos pins s σ H _ I h) fun us s1 ⟨vs, H1, I1, r1, v, ev, q1⟩ => ⟨I1.kIn, ?_⟩) hst hpl
  subst ev
  obtain ⟨u, rfl, r⟩ : ∃ u, us = [u] ∧ RelV v u := by
    cases r1 with
    | cons r rn =>
      cases rn
      exact ⟨_, rfl, r⟩
  show wpAny _ _ (call (.ref C) [u]) _ _ _
  obtain ⟨hp, g, dr, tk, os⟩ := s1
  have hsz : hp.objs.size ≤ hp.objs.size + 1 := Nat.le_succ _
  have hn : H1 (hp.objs.size + 1) = none := I1.hok.fresh hsz
  have kk : ∀ b o, hp.get? b = some o → (madeH hp [u] C).get? b = some o := fun b o e => Heap.get?_push_of_some _ (Heap.get?_push_of_some _ e)
  have hget : (madeH hp [u] C).get? (hp.objs.size + 1) = some (PySem.HandSPX.excO C hp.objs.size) := by heap_get
  have I2 : Inv X pins σ (upd H1 (hp.objs.size + 1) (exo (hp.objs.size + 1) C none)) ⟨madeH hp [u] C, g, dr, tk, os⟩ :=
    I1.laid (t' := tk) (a := hp.objs.size + 1) (o := exo (hp.objs.size + 1) C none) (h' := madeH hp [u] C) kk hsz (exo_ok hget)
  have hl : [u].length ≤ sizeLine := by rw [sizeLine_eq]; simp
  have hq : spInitE C f [.ref (hp.objs.size + 1), v] (upd H1 (hp.objs.size + 1) (exo (hp.objs.size + 1) C none)) (fun x H2 => x = .non ∧ ∃ (d : Addr) (fs : List (Str × V)), H2 (hp.objs.size + 1) = some (exo (hp.objs.size + 1) C (some d)) ∧ H2 d = some (exd d fs) ∧ H1 d = none ∧ Q (.ref C) (some d) (upd (del H2 (hp.objs.size + 1)) d (.xd fs))) (fun _ _ _ => False) := by
    refine ⟨_, v, rfl, upd_same, fun dx n ne => ⟨rfl, dx, [(f, v)], upd_same, by rw [upd_ne ne, upd_same], by rw [upd_ne ne] at n; exact n, ?_⟩⟩
    have nd : H1 dx = none := by rw [upd_ne ne] at n; exact n
    have e : upd (del (upd (upd (upd H1 (hp.objs.size + 1) (exo (hp.objs.size + 1) C none)) dx (exd dx [(f, v)])) (hp.objs.size + 1) (exo (hp.objs.size + 1) C (some dx))) (hp.objs.size + 1)) dx (.xd [(f, v)]) = upd H1 dx (.xd [(f, v)]) := by
      funext b
      by_cases b1 : b = dx
      · rw [b1, upd_same, upd_same]
      · rw [upd_ne b1, upd_ne b1]
        by_cases b2 : b = hp.objs.size + 1
        · rw [b2, del_same, hn]
        · rw [del_ne b2, upd_ne b2, upd_ne b1, upd_ne b2]
    rw [e]
    exact q1 dx nd
  have hbt : ∀ s' : Shared, BindsTo s' fdI ⟨.ref (hp.objs.size + 1) :: [u], []⟩ ((["self", f] : List Str).zip [.ref (hp.objs.size + 1), u]) := fun s' => hb1 s' _ _
  refine wpAny_call (call_ownK PySem.F.excBase_Exception (fun Y => PySem.W.excTail_contains Y bm hbm) (I1.kIn _ _ hC) hl (PySem.W.looks_findIn I1.kIn iC) (fun self => PySem.W.bind_fn I1.kIn self tI)
    (codeAny_mono (F1.run _ X.stack _ _ ⟨Value.ref (hp.objs.size + 1) :: [u], []⟩ [Value.ref (hp.objs.size + 1), u] [V.ref (hp.objs.size + 1), v] _ (fun _ _ _ => False) (hr.make C [u] []) (I2.env0.make C [u] []) (hbt _) (.cons rfl (.cons r .nil)) hq) fun r s' hq' => ?_))
  cases r with
  | error e => exact hq'.elim
  | ok fl =>
    cases fl with
    | ret u =>
      obtain ⟨v, H2, os2, bare2, un2, hok2, rv, ev, d, fs, ea, ed, hd1, q2⟩ := hq'
      subst ev
      obtain ⟨h2, g2, d2, t2, os'⟩ := s'
      exact ⟨rv, mk_end (raises_own T.exC T.tyC) I1 hsz kk un2 hok2 os2 bare2 ea ed hd1 q2⟩
    | next => exact False.elim hq'
    | brk => exact False.elim hq'
    | cont => exact False.elim hq'
end
end Vx
end L2
namespace L2
open PySem PySem.Spec PyProof.Rows
/-! ### o.m(..) within a try: what is raised is wished for at the slots as they stand -/
section
variable {X : Cx} {CX : CXT} {k : Nat} {f C : Addr} {fd : FuncData} {ps : List Str} {sp : Sp} {E : St → XK} {m : Str} {pos apos : Pos} {e o : Expr} {es : List Expr} {ta : TE} {t : TA}
def tMethAt (C : Addr) (m : Str) (sp : Sp) (E : St → XK) (ta : TE) (t : TA) : TE := fun σ H Q => ta σ H fun x H1 => ∃ a dx fs, x = .ref a ∧ H1 a = some (.ins C dx fs) ∧ fs.lookup m = none ∧ t σ H1 fun vs H2 => sp (x :: vs) H2 Q (E σ)
theorem pe_methAt {pl : Sem Bool} (he : PE X o ta) (c : Cls X.K C) (hm : Meth X.K C m f) (F : FnOk X.prog X.w X.K X.mg X.base CX k f fd ps sp) (hr : Room k X.A) (hb : Binds X.K fd ps []) (hx : ∀ σ, PassesAt CX X σ (E σ)) (ha : PA X (e :: es) t)
    (hst : starEach (e :: es) X.env = (false, eval e X.env) :: starEach es X.env := by rfl) (hpl : (backTo pos (starEach es X.env)).any (·.1) = false := by rfl)
    (ht : eval (.Call (.Attribute o m apos) (e :: es) [] pos) X.env = (do
      let ov ← eval o X.env
      standAt apos.atName
      let (f, first) ← holding [ov] (getMethod ov m pl)
      callWith pos f first (backTo pos (starEach (e :: es) X.env)) (backToKw pos (keywordEach [] X.env))) := by rfl) :
    PE X (.Call (.Attribute o m apos) (e :: es) [] pos) (tMethAt C m sp E ta t) := by
  refine ⟨fun pins s σ H Q I h => ?_⟩
  refine PySem.W.methodCall_KW (pl := pl) (thn (he.run pins s σ H _ I h) fun u s1 ⟨x, H1, I1, rx, a, dx, fs, ex, ea, l, q⟩ => ?_) ht
  subst ex
  obtain rfl : u = Value.ref a := rx
  refine getmeth_ok I1 ea c hm l ?_
  refine PySem.W.callWith_K (first := [.ref a]) (h₀ := X.base) I.ok.mod.kin hm.kp (thn (ha.run pos pins s1 σ H1 _ I1 q) fun us s2 ⟨vs, H2, I2, r, q2⟩ => ⟨I2.kIn, ?_⟩) hst hpl
  exact run_fnS (us := .ref a :: us) (vs := .ref a :: vs) F hr hb (hx σ) I2 (.cons rfl r) q2
theorem pe_methAt0 {pl : Sem Bool} (he : PE X o ta) (c : Cls X.K C) (hm : Meth X.K C m f) (F : FnOk X.prog X.w X.K X.mg X.base CX k f fd ps sp) (hr : Room k X.A) (hb : Binds X.K fd ps []) (hx : ∀ σ, PassesAt CX X σ (E σ))
    (ht : eval (.Call (.Attribute o m apos) [] [] pos) X.env = (do
      let ov ← eval o X.env
      standAt apos.atName
      let (f, first) ← holding [ov] (getMethod ov m pl)
      callWith pos f first (backTo pos (starEach [] X.env)) (backToKw pos (keywordEach [] X.env))) := by rfl) :
    PE X (.Call (.Attribute o m apos) [] [] pos) (tMethAt C m sp E ta tNil) := by
  refine ⟨fun pins s σ H Q I h => ?_⟩
  refine PySem.W.methodCall_KW (pl := pl) (thn (he.run pins s σ H _ I h) fun u s1 ⟨x, H1, I1, rx, a, dx, fs, ex, ea, l, q⟩ => ?_) ht
  subst ex
  obtain rfl : u = Value.ref a := rx
  refine getmeth_ok I1 ea c hm l ?_
  exact PySem.W.callWith_K0 (first := [.ref a]) I1.kIn hm.kp (by
    have go := run_fnS (us := [.ref a]) (vs := [.ref a]) F hr hb (hx σ) I1 (.cons rfl .nil) q
    exact go)
end
/-- a def that raises, called where it raises nothing -/
theorem passF {X : Cx} : Passes (L2.CX X.prog X.w) X (fun _ _ _ => False) := passes_call takes0 (fun _ _ _ _ h => h)
end L2

set_option Elab.async false
set_option linter.all false
set_option maxRecDepth 100000
set_option maxHeartbeats 4000000
namespace Vf
open PySem PySem.Spec PyProof.Rows L2 L2.Vx Vs Vm Vd
abbrev sBadText : Stmt := inClass (top 2) 0
abbrev sBadPlace : Stmt := inClass (top 3) 0
/-! ### kept texts with what they refuse -/
/-- E at C, with one attribute that bears v; nothing else has changed -/
def Refused (C : Addr) (f : Str) (v : V) (H : Hp) (E : XK) : Prop := ∀ d H', H d = none → Same H H' → H' d = some (.xd [(f, v)]) → E (.ref C) (some d) H'
theorem Refused.after {C : Addr} {f : Str} {v : V} {H H1 : Hp} {E : XK} (h : Refused C f v H E) (s : Same H H1) : Refused C f v H1 E := fun d H' n s' e => h d H' (by
  cases z : H d with
  | none => rfl
  | some o => rw [s _ _ z] at n; cases n) (s.trans s') e
theorem state_nat {n : Nat} {D : PyData} (h : stateB (n : Nat) D = true) : ∃ i : Nat, D = .int i ∧ i < n := by
  cases D with
  | int i =>
    have e : (decide (0 ≤ i) && decide (i < (n : Nat))) = true := h
    rw [Bool.and_eq_true, decide_eq_true_iff, decide_eq_true_iff] at e
    exact ⟨i.toNat, by rw [Int.toNat_of_nonneg e.1], by omega⟩
  | _ => exact absurd h (by intro z; cases z)
theorem text_wd {sg : Wd} {D : PyData} (h : textD sg D = true) : ∃ y : Wd, D = .str (mkS y) ∧ ∀ c ∈ y, c ∈ sg := by
  cases D with
  | str x =>
    refine ⟨x.cps.toList, by rw [mkS_of], fun c hc => ?_⟩
    have e : (x.cps.toList.all fun c => decide (c ∈ sg)) = true := h
    exact of_decide_eq_true (List.all_eq_true.mp e c hc)
  | _ => exact absurd h (by intro z; cases z)
def spXPlace (C CP : Addr) : Sp := fun vs H Q E => ∃ (p dx e : Addr) (sg : Wd) (k t : Nat) (z : Wd) (zs : List Wd) (v : V) (D : PyData) (S : Addr → Prop), vs = [.ref p, v] ∧ Dt H S v D ∧ KeptAt C H p dx e sg k t z zs ∧ z.length ≤ 100000 ∧
  (stateB ((z.length + 1 : Nat) : Int) D = true → ∀ H', Same H H' → Q .non H') ∧ (stateB ((z.length + 1 : Nat) : Int) D = false → Refused CP "place" v H E)
def spXPut (C CP CT : Addr) : Sp := fun vs H Q E => ∃ (p dx e : Addr) (sg : Wd) (k t : Nat) (z : Wd) (zs : List Wd) (v1 v2 : V) (D1 D2 : PyData) (S1 S2 : Addr → Prop), vs = [.ref p, v1, v2] ∧ Dt H S1 v1 D1 ∧ Dt H S2 v2 D2 ∧ wideD 100000 D2 ∧ KeptAt C H p dx e sg k t z zs ∧ zs.length ≤ 100000 ∧ z.length ≤ 100000 ∧
  (∀ (i : Nat) (y : Wd), D1 = .int i → i ≤ z.length → D2 = .str (mkS y) → (∀ c ∈ y, c ∈ sg) → ∀ H', KeptAt C H' p dx e sg k t (z.take i ++ y ++ z.drop i) (zs ++ [z]) → Keeps p e H H' → Q .non H') ∧
  (stateB ((z.length + 1 : Nat) : Int) D1 = false → Refused CP "place" v1 H E) ∧ (stateB ((z.length + 1 : Nat) : Int) D1 = true → textD sg D2 = false → Refused CT "value" v2 H E)
def spXCut (C CP : Addr) : Sp := fun vs H Q E => ∃ (p dx e : Addr) (sg : Wd) (k t : Nat) (z : Wd) (zs : List Wd) (v1 v2 : V) (D1 D2 : PyData) (S1 S2 : Addr → Prop), vs = [.ref p, v1, v2] ∧ Dt H S1 v1 D1 ∧ Dt H S2 v2 D2 ∧ KeptAt C H p dx e sg k t z zs ∧ zs.length ≤ 100000 ∧ z.length ≤ 100000 ∧
  (∀ (i j : Nat), D1 = .int i → D2 = .int j → i ≤ j → j ≤ z.length → ∀ H', KeptAt C H' p dx e sg k t (z.take i ++ z.drop j) (zs ++ [z]) → Keeps p e H H' → Q (.str (mkS ((z.drop i).take (j - i)))) H') ∧
  (stateB ((z.length + 1 : Nat) : Int) D1 = false → Refused CP "place" v1 H E) ∧ (stateB ((z.length + 1 : Nat) : Int) D1 = true → stateB ((z.length + 1 : Nat) : Int) D2 = false → Refused CP "place" v2 H E) ∧
  (∀ (i j : Nat), D1 = .int i → D2 = .int j → i ≤ z.length → j < i → Refused CP "place" v2 H E)
def spXItem (C CP : Addr) : Sp := fun vs H Q E => ∃ (p dx e : Addr) (sg : Wd) (k t : Nat) (z : Wd) (zs : List Wd) (v : V) (D : PyData) (S : Addr → Prop), vs = [.ref p, v] ∧ Dt H S v D ∧ KeptAt C H p dx e sg k t z zs ∧ z.length ≤ 100000 ∧
  (∀ (i c : Nat), D = .int i → z[i]? = some c → ∀ H', Same H H' → Q (.str (mkS [c])) H') ∧ (stateB (z.length : Nat) D = false → Refused CP "place" v H E)
section
variable {P : Program} {w : World} {K : PySem.W.Frag} {mg : Str → Option Value} {base : Heap} {C CP CT CU : Addr}
structure TxtX (P : Program) (w : World) (K : PySem.W.Frag) (mg : Str → Option Value) (base : Heap) (CP CT : Addr) : Prop where
  zP : ExK P w K mg base CP "place" 1
  gP : mg "BadPlace" = some (.ref CP)
  zT : ExK P w K mg base CT "value" 1
  gT : mg "BadText" = some (.ref CT)
theorem ok_xplace {f fS : Addr} {fd fdS : FuncData} (F : Fun K "_check_place" "Kept._check_place" sKPlace f fd) (T : TxtK K mg C) (TX : TxtX P w K mg base CP CT) (hlen : mg "len" = none)
    (GS : FnOk P w K mg base CX0 2 fS fdS ["thing", "many"] spState) (bS : Binds K fdS ["thing", "many"] []) (kS' : PySem.W.keepIn K (.ref fS) = true) (mS : mg "is_state" = some (.ref fS)) :
    FnOk P w K mg base (L2.CX P w) 3 f fd ["self", "place"] (spXPlace C CP) := by
  refine F.okX scKPlace (fun vs H Q E h => ?_) (fun cdv A outer s H vs Q E hr h => ?_)
  · obtain ⟨p, dx, e, sg, k, t, z, zs, v, D, S, rfl, _⟩ := h
    rfl
  obtain ⟨p, dx, e, sg, k, t, z, zs, v, D, S, rfl, hd, hk, hz, q1, q2⟩ := h
  refine ⟨_, pss_one (ps_if (pt_not (pt_val (pe_call GS hr rfl mS kS' bS .nil pass0 (pa_cons (pv 1) (pa_cons (pe_op op_add (pe_callB call_len_str (by rfl) hlen PySem.boot_len (pa_cons (pe_fld (pv 0) rfl) pa_nil)) pe_int) pa_nil)))))
    (pss_one (ps_raise rfl (takes_of rfl rfl rfl rfl) (pmk_exE TX.zP hr TX.gP (pv 1)))) pss_nil), ?_⟩
  refine ⟨_, rfl, _, rfl, p, C, dx, _, _, rfl, hk.ob, T.cl, T.nX, rfl, _, rfl, by rw [mkS_length, sizeLine_eq]; omega, _, _, rfl, rfl, v, D, S, _, rfl, hd, fun H1 s1 => ⟨_, rfl, ?_⟩⟩
  rw [mkS_length, show ((z.length : Nat) : Int) + 1 = ((z.length + 1 : Nat) : Int) from rfl]
  by_cases c : stateB ((z.length + 1 : Nat) : Int) D = true
  · rw [c]
    exact if_fl rfl (q1 c _ s1)
  · have c' := Bool.eq_false_iff.mpr c
    rw [c']
    refine if_tr rfl ⟨_, rfl, _, rfl, fun d hd' => ?_⟩
    exact (q2 c').after s1 d _ hd' (same_new hd' _) upd_same
theorem ok_xput {f fT fP fG : Addr} {fd fdT fdP fdG : FuncData} (F : Fun K "put" "Kept.put" sKPut f fd) (T : TxtK K mg C) (TX : TxtX P w K mg base CP CT)
    (GT : FnOk P w K mg base CX0 1 fT fdT ["letters", "thing"] spText) (bT : Binds K fdT ["letters", "thing"] []) (kT : PySem.W.keepIn K (.ref fT) = true) (mT : mg "is_text" = some (.ref fT))
    (GP : FnOk P w K mg base (L2.CX P w) 3 fP fdP ["self", "place"] (spXPlace C CP)) (bP : Binds K fdP ["self", "place"] []) (mP : Meth K C "_check_place" fP)
    (GG : FnOk P w K mg base CX0 1 fG fdG ["self", "text"] (spKChange C)) (bG : Binds K fdG ["self", "text"] []) (mG : Meth K C "_change" fG) :
    FnOk P w K mg base (L2.CX P w) 4 f fd ["self", "place", "text"] (spXPut C CP CT) := by
  refine F.okX scKPut (fun vs H Q E h => ?_) (fun cdv A outer s H vs Q E hr h => ?_)
  · obtain ⟨p, dx, e, sg, k, t, z, zs, v1, v2, D1, D2, S1, S2, rfl, _⟩ := h
    rfl
  obtain ⟨p, dx, e, sg, k, t, z, zs, v1, v2, D1, D2, S1, S2, rfl, d1, d2, hw, hk, hzs, hz, q1, q2, q3⟩ := h
  have hr1 : Room 1 _ := hr.mono (by decide)
  have hr2 : Room 2 _ := hr.mono (by decide)
  refine ⟨_, pss_cons (ps_expr (pe_meth (pv 0) T.cl mP GP hr bP .nil (passes_call (takes_of rfl rfl rfl rfl) (fun _ _ _ _ h => h)) (pa_cons (pv 1) pa_nil)))
    (pss_cons (ps_if (pt_not (pt_val (pe_call GT hr1 rfl mT kT bT .nil pass0 (pa_cons (pe_fld (pv 0) rfl) (pa_cons (pv 2) pa_nil))))) (pss_one (ps_raise rfl (takes_of rfl rfl rfl rfl) (pmk_exE TX.zT hr2 TX.gT (pv 2)))) pss_nil)
    (pss_one (ps_expr (pe_meth (pv 0) T.cl mG GG hr1 bG .nil pass0 (pa_cons (pe_op op_add_str (pe_op op_add_str (pe_slice sl_str (pe_fld (pv 0) rfl) po_none (po_some (pv 1))) (pv 2)) (pe_slice sl_str (pe_fld (pv 0) rfl) (po_some (pv 1)) po_none)) pa_nil))))), ?_⟩
  refine ⟨_, rfl, p, dx, _, rfl, hk.ob, rfl, _, rfl, p, dx, e, sg, k, t, z, zs, v1, D1, S1, rfl, d1, hk, hz, fun c1 H1 s1 => ?_, fun c1 => q2 c1⟩
  have hk1 := hk.same s1
  refine ⟨_, rfl, p, C, dx, _, _, rfl, hk1.ob, T.cl, T.nL, rfl, _, rfl, sg, v2, D2, S2, rfl, dt_same d2 s1, hw, fun H2 s2 => ⟨_, rfl, ?_⟩⟩
  by_cases c2 : textD sg D2 = true
  rotate_left
  · have c2' := Bool.eq_false_iff.mpr c2
    rw [c2']
    refine if_tr rfl ⟨_, rfl, _, rfl, fun d hd' => ?_⟩
    exact (q3 c1 c2').after (s1.trans s2) d _ hd' (same_new hd' _) upd_same
  rw [c2]
  refine if_fl rfl ?_
  obtain ⟨i, rfl, hi⟩ := state_nat c1
  obtain ⟨y, rfl, hy⟩ := text_wd c2
  obtain rfl := Vd.dt_int d1
  obtain rfl := Vd.dt_str d2
  have hyl : y.length ≤ 100000 := by
    have e : (mkS y).length ≤ 100000 := hw
    rw [mkS_length] at e
    exact e
  have hi' : i ≤ z.length := by omega
  have hk2 := hk1.same s2
  have hz16 : (mkS z).length ≤ sizeLine := by rw [mkS_length, sizeLine_eq]; omega
  refine ⟨_, rfl, p, dx, _, rfl, hk2.ob, rfl, _, rfl, p, C, dx, _, _, rfl, hk2.ob, T.cl, T.nX, rfl, _, rfl, _, rfl, _, rfl, hz16, ?_⟩
  rw [cut_head]
  refine ⟨_, rfl, _, _, rfl, rfl, ?_, ?_⟩
  · rw [mkS_length, mkS_length, List.length_take, sizeLine_eq]
    omega
  rw [mkS_append]
  refine ⟨_, rfl, p, C, dx, _, _, rfl, hk2.ob, T.cl, T.nX, rfl, _, rfl, _, rfl, _, rfl, hz16, ?_⟩
  rw [cut_tail hi']
  refine ⟨_, _, rfl, rfl, ?_, ?_⟩
  · rw [mkS_length, mkS_length, List.length_append, List.length_take, List.length_drop, sizeLine_eq]
    omega
  rw [mkS_append]
  exact ⟨p, dx, e, sg, k, t, z, zs, _, rfl, hk2, hzs, fun H3 h3 k3 => q1 i y rfl hi' rfl hy H3 h3 ((Keeps.of (s1.trans s2)).trans k3)⟩
theorem ok_xcut {f fP fG : Addr} {fd fdP fdG : FuncData} (F : Fun K "cut" "Kept.cut" sKCut f fd) (T : TxtK K mg C) (TX : TxtX P w K mg base CP CT)
    (GP : FnOk P w K mg base (L2.CX P w) 3 fP fdP ["self", "place"] (spXPlace C CP)) (bP : Binds K fdP ["self", "place"] []) (mP : Meth K C "_check_place" fP)
    (GG : FnOk P w K mg base CX0 1 fG fdG ["self", "text"] (spKChange C)) (bG : Binds K fdG ["self", "text"] []) (mG : Meth K C "_change" fG) :
    FnOk P w K mg base (L2.CX P w) 4 f fd ["self", "start", "stop"] (spXCut C CP) := by
  refine F.okX scKCut (fun vs H Q E h => ?_) (fun cdv A outer s H vs Q E hr h => ?_)
  · obtain ⟨p, dx, e, sg, k, t, z, zs, v1, v2, D1, D2, S1, S2, rfl, _⟩ := h
    rfl
  obtain ⟨p, dx, e, sg, k, t, z, zs, v1, v2, D1, D2, S1, S2, rfl, d1, d2, hk, hzs, hz, q1, q2, q3, q4⟩ := h
  have hr1 : Room 1 _ := hr.mono (by decide)
  have hr2 : Room 2 _ := hr.mono (by decide)
  refine ⟨_, pss_cons (ps_expr (pe_meth (pv 0) T.cl mP GP hr bP .nil (passes_call (takes_of rfl rfl rfl rfl) (fun _ _ _ _ h => h)) (pa_cons (pv 1) pa_nil)))
    (pss_cons (ps_expr (pe_meth (pv 0) T.cl mP GP hr bP .nil (passes_call (takes_of rfl rfl rfl rfl) (fun _ _ _ _ h => h)) (pa_cons (pv 2) pa_nil)))
    (pss_cons (ps_if (pt_cmpR op_lt (pv 2) (pv 1) (nomark _)) (pss_one (ps_raise rfl (takes_of rfl rfl rfl rfl) (pmk_exE TX.zP hr2 TX.gP (pv 2)))) pss_nil)
    (pss_cons (ps_set (i := 3) scKCut.nd rfl (Or.inl rfl) (pe_slice sl_str (pe_fld (pv 0) rfl) (po_some (pv 1)) (po_some (pv 2))))
    (pss_cons (ps_expr (pe_meth (pv 0) T.cl mG GG hr1 bG .nil pass0 (pa_cons (pe_op op_add_str (pe_slice sl_str (pe_fld (pv 0) rfl) po_none (po_some (pv 1))) (pe_slice sl_str (pe_fld (pv 0) rfl) (po_some (pv 2)) po_none)) pa_nil)))
    (pss_one (ps_ret (pv 3))))))), ?_⟩
  have hz16 : (mkS z).length ≤ sizeLine := by rw [mkS_length, sizeLine_eq]; omega
  refine ⟨_, rfl, p, dx, _, rfl, hk.ob, rfl, _, rfl, p, dx, e, sg, k, t, z, zs, v1, D1, S1, rfl, d1, hk, hz, fun c1 H1 s1 => ?_, fun c1 => q2 c1⟩
  have hk1 := hk.same s1
  refine ⟨_, rfl, p, dx, _, rfl, hk1.ob, rfl, _, rfl, p, dx, e, sg, k, t, z, zs, v2, D2, S2, rfl, dt_same d2 s1, hk1, hz, fun c2 H2 s2 => ?_, fun c2 => (q3 c1 c2).after s1⟩
  have hk2 := hk1.same s2
  obtain ⟨i, rfl, hi⟩ := state_nat c1
  obtain ⟨j, rfl, hj⟩ := state_nat c2
  obtain rfl := Vd.dt_int d1
  obtain rfl := Vd.dt_int d2
  have hi' : i ≤ z.length := by omega
  have hj' : j ≤ z.length := by omega
  refine ⟨_, rfl, _, rfl, _, _, rfl, rfl, _, rfl, ?_⟩
  by_cases hij : j < i
  · refine if_tr (decide_eq_true (by omega)) ⟨_, rfl, _, rfl, fun d hd' => ?_⟩
    exact (q4 i j rfl rfl hi' hij).after (s1.trans s2) d _ hd' (same_new hd' _) upd_same
  have hij' : i ≤ j := by omega
  refine if_fl (decide_eq_false (by omega)) ?_
  refine ⟨_, rfl, p, C, dx, _, _, rfl, hk2.ob, T.cl, T.nX, rfl, _, rfl, _, rfl, _, rfl, _, rfl, _, rfl, hz16, ?_⟩
  rw [cut_mid hij' hj']
  refine ⟨_, rfl, p, dx, _, rfl, hk2.ob, rfl, _, rfl, p, C, dx, _, _, rfl, hk2.ob, T.cl, T.nX, rfl, _, rfl, _, rfl, _, rfl, hz16, ?_⟩
  rw [cut_head]
  refine ⟨_, rfl, p, C, dx, _, _, rfl, hk2.ob, T.cl, T.nX, rfl, _, rfl, _, rfl, _, rfl, hz16, ?_⟩
  rw [cut_tail hj']
  refine ⟨_, _, rfl, rfl, ?_, ?_⟩
  · rw [mkS_length, mkS_length, List.length_take, List.length_drop, sizeLine_eq]
    omega
  rw [mkS_append]
  exact ⟨p, dx, e, sg, k, t, z, zs, _, rfl, hk2, hzs, fun H3 h3 k3 => ⟨_, rfl, q1 i j rfl rfl hij' hj' H3 h3 ((Keeps.of (s1.trans s2)).trans k3)⟩⟩
theorem ok_xitem {f fS : Addr} {fd fdS : FuncData} (F : Fun K "__getitem__" "Kept.__getitem__" sKItem f fd) (T : TxtK K mg C) (TX : TxtX P w K mg base CP CT) (hlen : mg "len" = none)
    (GS : FnOk P w K mg base CX0 2 fS fdS ["thing", "many"] spState) (bS : Binds K fdS ["thing", "many"] []) (kS' : PySem.W.keepIn K (.ref fS) = true) (mS : mg "is_state" = some (.ref fS)) :
    FnOk P w K mg base (L2.CX P w) 3 f fd ["self", "at"] (spXItem C CP) := by
  refine F.okX scKItem (fun vs H Q E h => ?_) (fun cdv A outer s H vs Q E hr h => ?_)
  · obtain ⟨p, dx, e, sg, k, t, z, zs, v, D, S, rfl, _⟩ := h
    rfl
  obtain ⟨p, dx, e, sg, k, t, z, zs, v, D, S, rfl, hd, hk, hz, q1, q2⟩ := h
  refine ⟨_, pss_cons (ps_if (pt_not (pt_val (pe_call GS hr rfl mS kS' bS .nil pass0 (pa_cons (pv 1) (pa_cons (pe_callB call_len_str (by rfl) hlen PySem.boot_len (pa_cons (pe_fld (pv 0) rfl) pa_nil)) pa_nil))))) (pss_one (ps_raise rfl (takes_of rfl rfl rfl rfl) (pmk_exE TX.zP hr TX.gP (pv 1)))) pss_nil)
    (pss_one (ps_ret (pe_ix ix_str (pe_fld (pv 0) rfl) (pv 1) (fun _ _ => rfl)))), ?_⟩
  refine ⟨_, rfl, _, rfl, p, C, dx, _, _, rfl, hk.ob, T.cl, T.nX, rfl, _, rfl, by rw [mkS_length, sizeLine_eq]; omega, v, D, S, _, rfl, hd, fun H1 s1 => ⟨_, rfl, ?_⟩⟩
  rw [mkS_length]
  by_cases c : stateB (z.length : Nat) D = true
  rotate_left
  · have c' := Bool.eq_false_iff.mpr c
    rw [c']
    refine if_tr rfl ⟨_, rfl, _, rfl, fun d hd' => ?_⟩
    exact (q2 c').after s1 d _ hd' (same_new hd' _) upd_same
  rw [c]
  refine if_fl rfl ?_
  obtain ⟨i, rfl, hi⟩ := state_nat c
  obtain rfl := Vd.dt_int hd
  have hc : z[i]? = some z[i] := List.getElem?_eq_getElem hi
  refine ⟨_, rfl, p, C, dx, _, _, rfl, s1 _ _ hk.ob, T.cl, T.nX, rfl, _, rfl, _, _, _, rfl, rfl, by rw [mkS_length, sizeLine_eq]; omega, ?_, q1 i _ rfl hc _ s1⟩
  rw [mkS_cps]
  exact atI_nat hc
end
end Vf

set_option Elab.async false
set_option linter.all false
set_option maxRecDepth 100000
set_option maxHeartbeats 4000000
namespace Vf
open PySem PySem.Spec PyProof.Rows L2 L2.Vx Vs Vm
abbrev sSize : Stmt := top 25
abbrev sWord : Stmt := top 26
/-! ### signs and words that are drawn -/
def GoodS (z : Wd) : Prop := 1 ≤ z.length ∧ z.length ≤ 4 ∧ ∀ c ∈ z, 97 ≤ c ∧ c ≤ 122
def spSize : Sp := fun vs H Q _ => ∃ (d g : Addr) (c : Nat), vs = [.ref d] ∧ DeckAt c H d g ∧ c + 2 ≤ most ∧
  ∀ (z : Wd) (k : Nat) (p : Addr) (H' : Hp), GoodS z → 1 ≤ k → k ≤ 8 → H' p = some (.tup [.str (mkS z), .int k]) → DeckAt (c + 2) H' d g → Keeps d g H H' → Q (.ref p) H'
def spWord : Sp := fun vs H Q _ => ∃ (d g : Addr) (s : Wd) (n : Nat) (c : Nat), vs = [.ref d, .str (mkS s), .int n] ∧ GoodS s ∧ 0 ≤ n ∧ n ≤ 2000 ∧ DeckAt c H d g ∧ c + n + 8 ≤ most ∧
  ∀ (z : Wd) (H' : Hp), z.length ≤ n → (∀ x ∈ z, x ∈ s) → DeckAt (c + n + 8) H' d g → Keeps d g H H' → Q (.str (mkS z)) H'
structure TxtW (mg : Str → Option Value) (fW fP : Addr) : Prop extends TxtD mg fW where
  pick : mg "_law_pick" = some (.ref fP)
  range : mg "range" = none
  min : mg "min" = none
def seven : List V := [.str "a", .str "ab", .str "ab", .str "xz", .str "abc", .str "mnoz", .str "abcd"]
theorem seven_good {x : V} (h : x ∈ seven) : ∃ z : Wd, x = .str (mkS z) ∧ GoodS z := by
  have all : ∀ w ∈ [[97], [97, 98], [120, 122], [97, 98, 99], [109, 110, 111, 122], [97, 98, 99, 100]], GoodS w := by
    intro w hw
    have : ∀ w ∈ [[97], [97, 98], [120, 122], [97, 98, 99], [109, 110, 111, 122], [97, 98, 99, 100]], 1 ≤ w.length ∧ w.length ≤ 4 ∧ ∀ c ∈ w, 97 ≤ c ∧ c ≤ 122 := by decide
    exact this w hw
  unfold seven at h
  simp only [List.mem_cons, List.not_mem_nil, or_false] at h
  rcases h with e | e | e | e | e | e | e
  · exact ⟨[97], e.trans (congrArg V.str (by decide +kernel)), all _ (by simp)⟩
  · exact ⟨[97, 98], e.trans (congrArg V.str (by decide +kernel)), all _ (by simp)⟩
  · exact ⟨[97, 98], e.trans (congrArg V.str (by decide +kernel)), all _ (by simp)⟩
  · exact ⟨[120, 122], e.trans (congrArg V.str (by decide +kernel)), all _ (by simp)⟩
  · exact ⟨[97, 98, 99], e.trans (congrArg V.str (by decide +kernel)), all _ (by simp)⟩
  · exact ⟨[109, 110, 111, 122], e.trans (congrArg V.str (by decide +kernel)), all _ (by simp)⟩
  · exact ⟨[97, 98, 99, 100], e.trans (congrArg V.str (by decide +kernel)), all _ (by simp)⟩
theorem four_at {n : Nat} (h1 : 1 ≤ n) (h2 : n ≤ 4) : ∃ b : Int, atI [V.int 8, V.int 8, V.int 5, V.int 4] ((n : Int) - 1) = some (.int b) ∧ 0 < b ∧ b ≤ 8 := by
  match n, h1, h2 with
  | 1, _, _ => exact ⟨8, rfl, by decide, by decide⟩
  | 2, _, _ => exact ⟨8, rfl, by decide, by decide⟩
  | 3, _, _ => exact ⟨5, rfl, by decide, by decide⟩
  | 4, _, _ => exact ⟨4, rfl, by decide, by decide⟩
/-- a test between two ways to a number -/
theorem if_int {c : Bool} {σ : L2.St} {i : Nat} {n m : Int} {H : Hp} {R : V → Hp → Prop} {B : Prop} (hs : σ[i]? = some (some (.int n))) (h0 : 0 ≤ n) (h1 : n ≤ m) (hB : (∀ j : Int, 0 ≤ j → j ≤ m → R (.int j) H) → B) (h : ∀ j : Int, 0 ≤ j → j ≤ m → R (.int j) H) :
    if c = true then (∃ v, σ[i]? = some (some v) ∧ R v H) else B := by
  split
  · exact ⟨_, hs, h n h0 h1⟩
  · exact hB h
section
variable {P : Program} {w : World} {K : PySem.W.Frag} {mg : Str → Option Value} {base : Heap}
theorem scSize : FnScope ["_law_deck_here", "_law_signs"] ["_law_deck_here"] (defScope sSize) := ⟨rfl, rfl, rfl, by decide +kernel, rfl, by decide +kernel, by decide +kernel⟩
abbrev nWord : List Str := ["_law_deck_here", "_law_signs", "_law_most", "_law_size_here", "_law_way", "_law_word_here", "_law_go"]
theorem scWord : FnScope nWord ["_law_deck_here", "_law_signs", "_law_most"] (defScope sWord) := ⟨rfl, rfl, rfl, by decide +kernel, rfl, by decide +kernel, by decide +kernel⟩
theorem ok_size {f fW fP : Addr} {fd fdW fdP : FuncData} (F : Fun K "_law_size" "_law_size" sSize f fd) (T : TxtW mg fW fP)
    (GW : FnOk P w K mg base CX0 1 fW fdW ["_law_deck_here", "_law_span"] spDraw) (bW : Binds K fdW ["_law_deck_here", "_law_span"] []) (kW : PySem.W.keepIn K (.ref fW) = true)
    (GP : FnOk P w K mg base CX0 2 fP fdP ["_law_deck_here", "_law_some"] (spPick K)) (bP : Binds K fdP ["_law_deck_here", "_law_some"] []) (kP : PySem.W.keepIn K (.ref fP) = true) :
    FnOk P w K mg base CX0 3 f fd ["_law_deck_here"] spSize := by
  refine F.ok scSize (fun vs H Q E h => ?_) (fun cdv A outer s H vs Q E hr h => ?_)
  · obtain ⟨d, g, c, rfl, _⟩ := h
    rfl
  obtain ⟨d, g, c, rfl, hD, hc, q⟩ := h
  have hr1 : Room 1 _ := hr.mono (by decide)
  refine ⟨_, pss_cons (ps_set (i := 1) scSize.nd rfl (Or.inl rfl) (pe_call GP hr rfl T.pick kP bP .nil pass0 (pa_cons (pv 0) (pa_cons (pe_lst (pa_cons pe_str (pa_cons pe_str (pa_cons pe_str (pa_cons pe_str (pa_cons pe_str (pa_cons pe_str (pa_cons pe_str pa_nil)))))))) pa_nil))))
    (pss_one (ps_ret (pe_tup (pa_cons (pv 1) (pa_cons (pe_op op_add pe_int (pe_call GW hr1 rfl T.draw kW bW .nil pass0 (pa_cons (pv 0) (pa_cons
      (pe_ix ix_list (pe_lst (pa_cons pe_int (pa_cons pe_int (pa_cons pe_int (pa_cons pe_int pa_nil))))) (pe_op op_sub (pe_callB call_len_str (by rfl) T.len PySem.boot_len (pa_cons (pv 1) pa_nil)) pe_int) (fun _ _ => rfl)) pa_nil)))) pa_nil))))), ?_⟩
  refine ⟨_, rfl, (by show 7 ≤ sizeLine; decide), fun l hl => ?_⟩
  have nl := hD.dn hl
  refine ⟨d, g, l, seven, c, rfl, SqL.of upd_same, nl.1, nl.2, (by intro z; cases z), (by show 7 < 1000000; decide), hD.same (same_new hl _), by omega, fun x H1 hx hD1 k1 => ?_⟩
  obtain ⟨z, rfl, gz⟩ := seven_good hx
  refine ⟨_, rfl, _, rfl, (by show 4 ≤ sizeLine; decide), fun l2 hl2 => ?_⟩
  have hz : (mkS z).length = z.length := mkS_length z
  obtain ⟨b, hb, hb0, hb8⟩ := four_at gz.1 gz.2.1
  have s2 := same_new hl2 (.lst [.int 8, .int 8, .int 5, .int 4])
  refine ⟨_, rfl, _, rfl, (by rw [hz, sizeLine_eq]; have := gz.2.1; omega), _, _, rfl, rfl, l2, _, _, .int b, rfl, rfl, SqL.of upd_same, by rw [hz]; exact hb, d, g, b, c + 1, rfl, hb0, by omega, hD1.same s2, by omega, fun r H2 r0 rb hD2 k2 => ?_⟩
  refine ⟨_, _, rfl, rfl, (by show 2 ≤ sizeLine; decide), fun t ht => ?_⟩
  have ek : (1 + r : Int) = ((1 + r).toNat : Nat) := by omega
  refine q z (1 + r).toNat t _ gz (by omega) (by omega) ?_ (hD2.same (same_new ht _)) ((((Keeps.of (same_new hl _)).trans k1).trans (Keeps.of s2)).trans k2 |>.trans (Keeps.of (same_new ht _)))
  rw [upd_same, ← ek]
theorem ok_word {f fW fP : Addr} {fd fdW fdP : FuncData} (F : Fun K "_law_word" "_law_word" sWord f fd) (T : TxtW mg fW fP)
    (GW : FnOk P w K mg base CX0 1 fW fdW ["_law_deck_here", "_law_span"] spDraw) (bW : Binds K fdW ["_law_deck_here", "_law_span"] []) (kW : PySem.W.keepIn K (.ref fW) = true)
    (GP : FnOk P w K mg base CX0 2 fP fdP ["_law_deck_here", "_law_some"] spPickS) (bP : Binds K fdP ["_law_deck_here", "_law_some"] []) (kP : PySem.W.keepIn K (.ref fP) = true) :
    FnOk P w K mg base CX0 3 f fd ["_law_deck_here", "_law_signs", "_law_most"] spWord := by
  refine F.ok scWord (fun vs H Q E h => ?_) (fun cdv A outer s H vs Q E hr h => ?_)
  · obtain ⟨d, g, s, n, c, rfl, _⟩ := h
    rfl
  obtain ⟨d, g, sg, n, c, rfl, gs, hn1, hn2, hD, hc, q⟩ := h
  have hr1 : Room 1 _ := hr.mono (by decide)
  refine ⟨_, pss_cons (ps_par (i := 3) (j := 4) rfl scWord.nd rfl rfl (by decide) rfl rfl (pa_cons (pe_call GW hr1 rfl T.draw kW bW .nil pass0 (pa_cons (pv 0) (pa_cons (pe_op op_add (pv 2) pe_int) pa_nil))) (pa_cons (pe_call GW hr1 rfl T.draw kW bW .nil pass0 (pa_cons (pv 0) (pa_cons pe_int pa_nil))) pa_nil)) (by rfl))
    (pss_cons (ps_set (i := 5) scWord.nd rfl (Or.inl rfl) (pe_join pe_str (pe_lc (own := [("_law_go", 6)]) (g := gName 6) (tt := tYes) rfl scWord.nd
        (pi_range1 rfl T.range (pa_cons (pe_ifExp (pt_cmpR op_gt (pv 4) pe_int (nomark _)) (pv 3) (pe_callB (call_min2 rfl) (by rfl) T.min (by decide +kernel) (pa_cons (pv 3) (pa_cons pe_int pa_nil)))) pa_nil))
        (blkOk_by (N := nWord) (sc := defScope sWord) (by decide +kernel)) (fun _ _ _ _ _ => pg_name (i := 6) scWord.nd rfl (Or.inl rfl)) (fun _ _ _ _ _ => pts_nil)
        (fun _ _ _ _ _ => by exact pe_call GP hr rfl T.pick kP bP .nil pass0 (pa_cons (pv 0) (pa_cons (pv 1) pa_nil))))))
    (pss_one (ps_ret (pe_ifExp (pt_cmpR op_gt (pv 4) pe_int (nomark _)) (pv 5)
      (pe_slice sl_str (pe_op op_mul_str (pv 5) (pv 2)) po_none (po_some (pe_call GW hr1 rfl T.draw kW bW .nil pass0 (pa_cons (pv 0) (pa_cons (pe_op op_add (pv 2) pe_int) pa_nil))))))))), ?_⟩
  refine ⟨_, rfl, _, rfl, _, _, rfl, rfl, d, g, _, c, rfl, by omega, by omega, hD, by omega, fun r1 H1 a0 a1 hD1 k1 => ?_⟩
  refine ⟨_, rfl, d, g, _, c + 1, rfl, by decide, by decide, hD1, by omega, fun r2 H2 b0 b1 hD2 k2 => ?_⟩
  refine ⟨_, _, rfl, ⟨_, rfl⟩, _, rfl, _, _, rfl, rfl, _, rfl, ?_⟩
  refine if_int (n := r1) (m := (n : Int)) rfl a0 (by omega) (fun key => ?_) fun j j0 j1 => ?_
  · refine ⟨_, rfl, _, _, rfl, ?_⟩
    split
    · exact key _ (by decide) (by omega)
    · exact key _ a0 (by omega)
  refine ⟨j, rfl, by omega, by omega, fun D hD3 => ?_⟩
  have nD := hD2.dn hD3
  have k02 := k1.trans k2
  refine lc_it (walk_range (lo := 0) (n := j.toNat)) (fun i H' => ∃ us : Wd, H' D = some (.lst (us.map fun c => V.str (mkS [c]))) ∧ us.length = i ∧ (∀ x ∈ us, x ∈ sg) ∧ DeckAt (c + 2 + i) H' d g ∧ Keeps d g H2 H')
    ⟨[], upd_same, rfl, (fun _ z => nomatch z), hD2.same (same_new hD3 _), Keeps.of (same_new hD3 _)⟩ (fun _ _ _ _ => trivial) ?_ ?_
  · rintro i x H3 H4 hi ⟨us, m1, m2, m3, hD4, k4⟩ ⟨rfl, rfl⟩
    have hl : (mkS sg).length = sg.length := mkS_length sg
    refine ⟨rfl, _, rfl, _, rfl, d, g, mkS sg, c + 2 + i, rfl, by rw [hl]; exact gs.1, by rw [hl]; have := gs.2.1; omega, hD4, by omega, fun x H5 hx hD5 k5 => ?_⟩
    rw [mkS_cps] at hx
    refine ⟨_, k5 _ _ nD.1 nD.2 m1, by rw [List.length_map, m2, sizeLine_eq]; omega, us ++ [x], ?_, by rw [List.length_append, m2]; rfl, ?_, hD5.other nD.1 nD.2 _, fun b o n1 n2 e => ?_⟩
    · rw [upd_same, List.map_append]
      rfl
    · intro y hy
      rcases List.mem_append.mp hy with hy | hy
      · exact m3 y hy
      · rw [List.mem_singleton.mp hy]; exact hx
    · rw [upd_ne (ne_of_none e hD3)]
      exact k5 b o n1 n2 (k4 b o n1 n2 e)
  · rintro H3 ⟨us, m1, m2, m3, hD4, k4⟩
    have m1' : H3 D = some (.lst ((us.map fun c => mkS [c]).map V.str)) := by rw [m1, List.map_map]; rfl
    have kk := k02.trans k4
    have ul : us.length ≤ n := by omega
    refine ⟨_, D, _, rfl, rfl, .inl (SqL.of m1'), ?_, ?_⟩
    · rw [sum_signs, List.length_map]
      show us.length + us.length * 0 ≤ _
      omega
    show tSeq _ _ _ _ _
    rw [join_signs]
    refine ⟨_, rfl, _, _, rfl, rfl, _, rfl, ?_⟩
    refine ite2 (fun _ => ?_) (fun _ => ?_)
    · exact ⟨_, rfl, q us H3 ul m3 (hD4.le (by omega)) kk⟩
    · refine ⟨_, rfl, _, rfl, _, _, rfl, rfl, mulOk_of (by omega) (by omega), ?_⟩
      rw [mul_times]
      refine ⟨_, rfl, _, rfl, _, _, rfl, rfl, d, g, _, _, rfl, by omega, by omega, hD4, by omega, fun r3 H5 c0 c1 hD5 k5 => ?_⟩
      have tl : (mkS (times n us)).length ≤ sizeLine := by
        rw [mkS_length, times_length, sizeLine_eq]
        have : n * us.length ≤ 2000 * 2000 := Nat.mul_le_mul hn2 (by omega)
        omega
      have e3 : r3 = ((r3.toNat : Nat) : Int) := by omega
      refine ⟨_, rfl, _, rfl, tl, ?_⟩
      rw [e3, cut_head]
      refine q _ H5 ?_ (fun x hx => m3 x (times_mem (List.mem_of_mem_take hx))) (hD5.le (by omega)) (kk.trans k5)
      rw [List.length_take]
      omega
end
end Vf

set_option Elab.async false
set_option linter.all false
set_option maxRecDepth 100000
set_option maxHeartbeats 4000000
/-! ### pairs (text, int), any number of them, sorted -/
namespace SrtO
open PySem PyProof.Rows Srt
section
variable {prog : Program} {w : World} {A : Around} {E : Value → Shared → Prop} {s : Shared}
def IsPS (h : Heap) (v : Value) (x : PySem.Str) (y : Int) : Prop := ∃ a o t u n, v = .ref a ∧ h.get? a = some o ∧ o.cls = .type "tuple" ∧ o.data = .seq #[.str x t, .int y u] n
theorem IsPS.keeps {h h' : Heap} {v : Value} {x : PySem.Str} {y : Int} (p : IsPS h v x y) (k : ∀ b o, h.get? b = some o → o.cls = .type "tuple" → h'.get? b = some o) : IsPS h' v x y := by
  obtain ⟨a, o, t, u, n, e, ho, hc, hd⟩ := p
  exact ⟨a, o, t, u, n, e, k _ _ ho hc, hc, hd⟩
def lexS (p q : PySem.Str × Int) : Bool := if p.1 = q.1 then decide (p.2 < q.2) else decide (p.1.cps.toList < q.1.cps.toList)
theorem str_ext {x y : PySem.Str} (h : x.cps.toList = y.cps.toList) : x = y := by
  obtain ⟨⟨l⟩⟩ := x
  obtain ⟨⟨m⟩⟩ := y
  have e : l = m := h
  rw [e]
theorem lexS_iff {p q : PySem.Str × Int} : lexS p q = true ↔ p.1.cps.toList < q.1.cps.toList ∨ (p.1 = q.1 ∧ p.2 < q.2) := by
  unfold lexS
  by_cases e : p.1 = q.1
  · rw [if_pos e, decide_eq_true_eq, e]
    exact ⟨fun h => .inr ⟨rfl, h⟩, fun h => h.elim (fun z => absurd z (Vm.lt_irr _)) (·.2)⟩
  · rw [if_neg e, decide_eq_true_eq]
    exact ⟨.inl, fun h => h.elim id fun z => absurd z.1 e⟩
theorem lexS_no {p q : PySem.Str × Int} : lexS p q = false ↔ ¬ (p.1.cps.toList < q.1.cps.toList ∨ (p.1 = q.1 ∧ p.2 < q.2)) := by
  rw [← lexS_iff]
  cases lexS p q <;> simp
theorem swo_lexS {α : Type} (k : α → PySem.Str × Int) : Swo fun v u => lexS (k v) (k u) := by
  refine ⟨fun x y h => ?_, fun x y z h1 h2 => ?_⟩
  · have a := lexS_iff.mp h
    refine lexS_no.mpr fun b => ?_
    rcases a with a | ⟨a1, a2⟩
    · rcases b with b | ⟨b1, b2⟩
      · exact Vm.lt_as a b
      · rw [b1] at a
        exact Vm.lt_irr _ a
    · rcases b with b | ⟨b1, b2⟩
      · rw [a1] at b
        exact Vm.lt_irr _ b
      · omega
  · have a := lexS_no.mp h1
    have b := lexS_no.mp h2
    refine lexS_no.mpr fun c => ?_
    have a1 : ¬ (k y).1.cps.toList < (k x).1.cps.toList := fun z => a (.inl z)
    have b1 : ¬ (k z).1.cps.toList < (k y).1.cps.toList := fun z => b (.inl z)
    rcases c with c | ⟨c1, c2⟩
    · exact Vm.le_tr a1 b1 c
    · have e : (k x).1 = (k y).1 := str_ext (Vm.lt_tri (fun z' => by
        rw [← c1] at z'
        exact b1 z') a1)
      have n1 : ¬ (k y).2 < (k x).2 := fun z' => a (.inr ⟨e.symm, z'⟩)
      have n2 : ¬ (k z).2 < (k y).2 := fun z' => b (.inr ⟨c1.trans e, z'⟩)
      omega
theorem pairS_cmp {vs : List Value} {k : Value → PySem.Str × Int} (hp : ∀ v ∈ vs, IsPS s.heap v (k v).1 (k v).2) : Cmp prog w A s (tuples' true) (fun p => p.1 ∈ vs) (lt2 fun v u => lexS (k v) (k u)) := by
  intro p q hm hm'
  have h1 := hp _ hm
  have h2 := hp _ hm'
  show wpAny (model prog w) A (keyLt' (tuples' true) p.1 q.1) (fun r s' => s' = s ∧ r = lexS (k p.1) (k q.1)) (fun _ _ => False) s
  unfold lexS
  generalize (k p.1).1 = x at h1 ⊢
  generalize (k p.1).2 = y at h1 ⊢
  generalize (k q.1).1 = x' at h2 ⊢
  generalize (k q.1).2 = y' at h2 ⊢
  obtain ⟨a, o, t, u, n, e, ho, hc, hd⟩ := h1
  obtain ⟨a', o', t', u', n', e', ho', hc', hd'⟩ := h2
  rw [e, e']
  refine PySem.W.kat_lt ho hd ho' hd' ?_
  show PySem.W.KatLex prog w A true (decide (2 < 2)) _ [(.str x t, .str x' t'), (.int y u, .int y' u')] 0 s
  refine PySem.W.kat_cons (SeqAt.EqAt.str_str x t x' t' prog w _ _ ?_)
  refine PySem.W.kat_go (fun e1 => ?_) (fun e1 => ?_)
  · have ex : x = x' := by simpa using e1
    refine PySem.W.kat_yes (PySem.W.kat_cons (SeqAt.EqAt.int_int y u y' u' prog w _ _ ?_))
    refine PySem.W.kat_go (fun e2 => ?_) (fun e2 => ?_)
    · have ey : y = y' := by simpa using e2
      have e3 : (if x = x' then decide (y < y') else decide (x.cps.toList < x'.cps.toList)) = false := by
        rw [if_pos ex, ey]
        exact decide_eq_false (Int.lt_irrefl _)
      exact PySem.W.kat_yes (PySem.W.kat_nil ⟨rfl, e3.symm⟩)
    · have e3 : (if x = x' then decide (y < y') else decide (x.cps.toList < x'.cps.toList)) = decide (y < y') := if_pos ex
      refine PySem.W.kat_no (PySem.W.kat_one _ _ (PyProof.Rows.lt_int ?_))
      exact (show s = s ∧ decide (y < y') = (if x = x' then decide (y < y') else decide (x.cps.toList < x'.cps.toList)) from ⟨rfl, e3.symm⟩)
  · have ex : ¬ x = x' := by simpa using e1
    have e3 : (if x = x' then decide (y < y') else decide (x.cps.toList < x'.cps.toList)) = decide (x.cps.toList < x'.cps.toList) := if_neg ex
    exact PySem.W.kat_no (oneLt_str ⟨rfl, e3.symm⟩)
theorem firstsS_of {h : Heap} : ∀ {vs : List Value}, (∀ v ∈ vs, ∃ x y, IsPS h v x y) → ∃ fs : List Value, PySem.W.KatTups h vs fs ∧ fs.length = vs.length ∧ ∀ f ∈ fs, ∃ x t, f = Value.str x t
  | [], _ => ⟨[], PySem.W.KatTups.nil, rfl, fun _ hm => by simp at hm⟩
  | v :: vs, hp => by
    obtain ⟨fs, h1, h2, h3⟩ := firstsS_of (vs := vs) fun v' hm => hp v' (List.mem_cons_of_mem _ hm)
    obtain ⟨x, y, a, o, t, u, n, e, ho, hc, hd⟩ := hp v (List.mem_cons_self ..)
    subst e
    refine ⟨.str x t :: fs, PySem.W.KatTups.cons ho hc hd rfl h1, by rw [List.length_cons, List.length_cons, h2], fun f hm => ?_⟩
    rcases List.mem_cons.mp hm with rfl | hm
    · exact ⟨x, t, rfl⟩
    · exact h3 f hm
theorem pairsS_sortable {a : Addr} {vs : List Value} {k : Value → PySem.Str × Int} (h0 : 0 < vs.length) (hp : ∀ v ∈ vs, IsPS s.heap v (k v).1 (k v).2) (ha : ∀ o, s.heap.get? a = some o → o.cls ≠ .type "tuple") : SortableO prog w A s a vs fun v u => lexS (k v) (k u) := by
  intro h' keep
  have hp' : ∀ v ∈ vs, IsPS h' v (k v).1 (k v).2 := fun v hm => (hp v hm).keeps fun b o e c => keep b o (fun z => by subst z; exact ha o e c) e
  obtain ⟨fs, h1, h2, h3⟩ := firstsS_of fun v hm => ⟨_, _, hp' v hm⟩
  refine ⟨tuples' true, fun Q E hq => ?_, pairS_cmp hp'⟩
  refine PySem.W.kat_kind (T := .type "str") h1 (by omega) (fun f hm => ?_) (by rfl) ?_
  · obtain ⟨x, t, rfl⟩ := h3 f hm
    exact PySem.W.Looks.now
  · have e : (Value.type "str" != Value.type "tuple") = true := by first | decide +kernel | rfl | decide
    rw [e]
    exact hq
theorem sorted_pairsS {l : Addr} {vs : List Value} {k : Value → PySem.Str × Int} {Q : Value → Shared → Prop} (hl : s.heap.IsList l vs.toArray) (hz : vs.length ≤ sizeLine) (hp : ∀ v ∈ vs, IsPS s.heap v (k v).1 (k v).2)
    (h : ∀ (h' : Heap) (d : Addr) (out : List Value), Srtd (fun v u => lexS (k v) (k u)) out → Stb (fun v u => lexS (k v) (k u)) out vs → (∀ b o, s.heap.get? b = some o → h'.get? b = some o) → s.heap.objs.size ≤ d → (∃ n, h'.get? d = some (seqObj "list" out.toArray n)) → Q (.ref d) { s with heap := h' }) :
    wpAny (model prog w) A (call (.builtin "sorted") [.ref l]) Q E s := by
  refine sorted_ord (swo_lexS k) hl hz (fun h2 h₁ a ha kk => ?_) fun out hs hb => ?_
  · refine pairsS_sortable (s := { s with heap := h₁ }) (by omega) (fun v hm => (hp v hm).keeps fun b o e _ => (kk b o e).2) fun o e => ?_
    have e' : some o = some (seqObj "list" vs.toArray 0) := e.symm.trans ha
    cases e'
    intro c
    exact absurd (Value.type.inj c) (by decide)
  · exact h _ _ out hs hb (fun b o e => sortedAll_old e) (Nat.le_succ _) (sortedAll_at s.heap vs out.toArray)
end
end SrtO
namespace Vs
open PySem PySem.Spec PyProof.Rows L2 L2.Vx Vm
abbrev ltPS (k : V → Str × Int) (x y : V) : Bool := SrtO.lexS (k x) (k y)
/-- sorted(xs), xs a list of pairs (text, int), any number of them -/
def rSortedPS (K : PySem.W.Frag) : List V → Hp → VK → Prop := fun vs H Q => ∃ (a : Addr) (xs : List V) (k : V → Str × Int), vs = [V.ref a] ∧ SqL K H a xs ∧ (∀ x ∈ xs, ∃ t, x = V.ref t ∧ H t = some (.tup [.str (k x).1, .int (k x).2])) ∧
  ∀ ys p, SrtO.Srtd (ltPS k) ys → SrtO.Stb (ltPS k) ys xs → H p = none → Q (.ref p) (upd H p (.lst ys))
section
variable {X : Cx}
theorem cr_sortedPS : CallR X (.builtin "sorted") (rSortedPS X.K) := by
  intro pins s σ H vs us Q I r h
  obtain ⟨a, xs, k, rfl, hs, hx, q⟩ := h
  obtain ⟨its, rv, hl, hz⟩ := I.list hs
  obtain ⟨u, rfl, ru⟩ := vals1 r
  obtain rfl : u = Value.ref a := ru
  obtain ⟨e1, e2⟩ := refs_back rv fun x m => by
    obtain ⟨t, e, _⟩ := hx x m
    exact ⟨t, e⟩
  refine SrtO.sorted_pairsS (k := fun u => k (backV u)) hl.isList (by rw [← rv.length]; exact hz) (fun v hv => ?_) fun h' d out h1 h2 kp hd hn => ?_
  · obtain ⟨t, rfl⟩ := e2 v hv
    have hm : V.ref t ∈ xs := by rw [e1]; exact List.mem_map.mpr ⟨_, hv, rfl⟩
    obtain ⟨t', e, ht⟩ := hx _ hm
    cases e
    obtain ⟨_, its2, r2, o, ho, hc, n, hd⟩ := I.hok _ _ ht
    obtain ⟨u1, u2, rfl, ri, rj⟩ := vals2 r2
    obtain ⟨t1, rfl⟩ := ri
    obtain ⟨t2, rfl⟩ := rj
    exact ⟨t, o, t1, t2, n, rfl, ho, hc, hd⟩
  · have h3 : ∀ u ∈ out, ∃ a, u = Value.ref a := fun u hu => e2 u (h2.perm.mem_iff.mp hu)
    obtain ⟨n, hn⟩ := hn
    have hb : SrtO.Stb (ltPS k) (out.map backV) xs := by
      rw [e1]
      exact SrtO.Stb.map (SrtO.swo_lexS k) backV h2
    refine ⟨.ref d, upd H d (.lst (out.map backV)), I.laid (t' := s.toks) kp hd ⟨?_, out, n, vals_back h3, hn⟩, rfl, q _ d (SrtO.srtd_map h1) hb (I.hok.fresh hd)⟩
    rw [hb.len]
    exact hz
/-- sorted(xs), xs the pairs (word, number) of different words -/
def psOf (H : Hp) : V → Str × Int
  | .ref t => match H t with
    | some (.tup [.str s, .int n]) => (s, n)
    | _ => ("", 0)
  | _ => ("", 0)
theorem ps_pair {H : Hp} {S : Addr → Prop} {v : V} {g : Wd → Int} {p : Wd} (h : Dt H S v (pairD g p)) : ∃ a, v = .ref a ∧ H a = some (.tup [.str (mkS p), .int (g p)]) ∧ psOf H v = (mkS p, g p) := by
  cases h with
  | flat h => cases v <;> cases h
  | tup e s r =>
    rename_i a xs
    cases r with
    | cons h1 r =>
      cases r with
      | cons h2 r =>
        cases r
        cases h1 with
        | flat h1 =>
          cases h2 with
          | flat h2 =>
            rename_i v1 v2
            obtain rfl : v1 = .str (mkS p) := by
              cases v1 with
              | str x => exact congrArg V.str (PyData.str.inj (show PyData.str (mkS p) = .str x from h1)).symm
              | _ => exact absurd h1 (by intro z; cases z)
            obtain rfl : v2 = .int (g p) := by
              cases v2 with
              | int x => exact congrArg V.int (PyData.int.inj (show PyData.int (g p) = .int x from h2)).symm
              | _ => exact absurd h2 (by intro z; cases z)
            refine ⟨a, rfl, e, ?_⟩
            show (match H a with | some (.tup [.str s, .int n]) => (s, n) | _ => ("", 0)) = _
            rw [e]
theorem dtA_mem {H : Hp} {S : Addr → Prop} : ∀ {vs : List V} {ds : List PyData}, DtAll H S vs ds → (∀ v ∈ vs, ∃ d ∈ ds, Dt H S v d)
  | _, _, .nil, v, h => absurd h (by simp)
  | _, _, .cons h r, v, hv => by
    rcases List.mem_cons.mp hv with rfl | hv
    · exact ⟨_, List.mem_cons_self .., h⟩
    · obtain ⟨d, h1, h2⟩ := dtA_mem r v hv
      exact ⟨d, List.mem_cons_of_mem _ h1, h2⟩
theorem dtA_ps {H : Hp} {S : Addr → Prop} {g : Wd → Int} : ∀ {vs : List V} {ks : List Wd}, DtAll H S vs (ks.map (pairD g)) → vs.map (psOf H) = ks.map fun p => (mkS p, g p)
  | [], [], .nil => rfl
  | _ :: _, _ :: _, .cons h r => by
    obtain ⟨_, _, _, e⟩ := ps_pair h
    rw [List.map_cons, List.map_cons, e, dtA_ps r]
theorem dtA_of {H : Hp} {S : Addr → Prop} {g : Wd → Int} : ∀ {ys : List V} {l : List Wd}, (ys.map fun y => (psOf H y).1) = l.map mkS → (∀ y ∈ ys, ∃ p, Dt H S y (pairD g p)) → DtAll H S ys (l.map (pairD g))
  | [], [], _, _ => .nil
  | [], _ :: _, e, _ => nomatch e
  | _ :: _, [], e, _ => nomatch e
  | y :: ys, q :: l, e, h => by
    rw [List.map_cons, List.map_cons] at e
    obtain ⟨e1, e2⟩ := List.cons.inj e
    obtain ⟨p, d⟩ := h y (List.mem_cons_self ..)
    obtain ⟨_, _, _, e3⟩ := ps_pair d
    rw [e3] at e1
    have e4 : p = q := mkS_inj e1
    subst e4
    exact .cons d (dtA_of e2 fun y hy => h y (List.mem_cons_of_mem _ hy))
theorem cr_sortedPD : CallR X (.builtin "sorted") (fun vs H Q => ∃ (a : Addr) (xs : List V) (ks : List Wd) (g : Wd → Int) (S : Addr → Prop), vs = [V.ref a] ∧ SqL X.K H a xs ∧ ks.Nodup ∧ DtAll H S xs (ks.map (pairD g)) ∧
    ∀ ys p, DtAll H S ys ((asc ks).map (pairD g)) → H p = none → Q (.ref p) (upd H p (.lst ys))) := by
  intro pins s σ H vs us Q I r h
  obtain ⟨a, xs, ks, g, S, rfl, hs, nd, hd, q⟩ := h
  refine cr_sortedPS pins s σ H _ us Q I r ⟨a, xs, psOf H, rfl, hs, fun x hx => ?_, fun ys p h1 h2 hp => q ys p (dtA_of ?_ fun y hy => ?_) hp⟩
  · obtain ⟨d, hm, dx⟩ := dtA_mem hd x hx
    obtain ⟨p, _, rfl⟩ := List.mem_map.mp hm
    obtain ⟨t, e1, e2, e3⟩ := ps_pair dx
    rw [e3]
    exact ⟨t, e1, e2⟩
  · have pm : (ys.map fun y => (psOf H y).1).Perm (ks.map mkS) := by
      have e := (h2.perm.map (psOf H)).map (·.1)
      rw [dtA_ps hd, List.map_map, List.map_map] at e
      exact e
    refine sorted_is pm ?_ nd
    refine List.pairwise_map.mpr (h1.imp fun {x y} z => ?_)
    have n := SrtO.lexS_no.mp z
    exact fun c => n (.inl c)
  · obtain ⟨d, hm, dx⟩ := dtA_mem hd y (h2.perm.mem_iff.mp hy)
    obtain ⟨p, _, rfl⟩ := List.mem_map.mp hm
    exact ⟨p, dx⟩
end
end Vs

set_option Elab.async false
set_option linter.all false
set_option maxRecDepth 100000
set_option maxHeartbeats 4000000
/-! ### dict(tuple of pairs): the tuple is one whose object is told -/
namespace Vs
open PySem PySem.Spec PyProof.Rows L2 L2.Vx Vm
section
variable {X : Cx}
/-- tuple(list), its object told -/
theorem call_tuple_ofF : CallR X (.type "tuple") (fun xs H Q => ∃ p ys, xs = [.ref p] ∧ SqL X.K H p ys ∧ ∀ l o, H l = none → o.dict = none → Q (.ref l) (upd H l (.frz o (.tup ys)))) := by
  intro pins s σ H xs us Q I r h
  obtain ⟨p, ys, rfl, hq, q⟩ := h
  obtain ⟨u, rfl, rx⟩ := vals1 r
  cases rx
  obtain ⟨its, r', pl, hz⟩ := I.list hq
  have hlen := r'.length
  refine call_tuple_list pl.isList (fun h' kp => ?_) (by simp only [List.size_toArray] <;> omega)
  have I1 : Inv X pins σ H { s with heap := h' } := I.kept (t' := s.toks) kp
  have I2 : Inv X pins σ (upd H h'.objs.size (.frz { cls := .type "tuple", data := .seq its.toArray } (.tup ys))) { s with heap := h'.push { cls := .type "tuple", data := .seq its.toArray } } :=
    I1.laid (t' := s.toks) (fun b o e => Heap.get?_push_of_some _ e) (Nat.le_refl _) (show ObjOk X.prog X.w _ _ _ (.frz { cls := .type "tuple", data := .seq its.toArray } (.tup ys)) from ⟨Heap.get?_push_size _ rfl, hz, its, r', IsTup.new _ _⟩)
  exact ⟨.ref h'.objs.size, _, I2, rfl, q _ _ (I1.hok.fresh (Nat.le_refl _)) rfl⟩
theorem pairs_ofT {pins : List (Addr × Obj)} {σ : L2.St} {H : Hp} {s : Shared} (I : L2.Inv X pins σ H s) : ∀ {ps : List Addr} {kvs : List (Key × V)}, Paired (fun p kv => SqT X.K H p [kV kv.1, kv.2]) ps kvs →
    ∃ (prs : List (Key × Value)) (us : List (Value × Value)), KV kvs prs ∧ prs.length = ps.length ∧ us.length = ps.length ∧ ∀ (j : Nat) (k v : Value), us[j]? = some (k, v) → ∃ (b : Addr) (kk : Key), ps[j]? = some b ∧ IsTup s.heap b #[k, v] ∧ prs[j]? = some (kk, v) ∧ keyIs kk k = true
  | _, _, .nil => ⟨[], [], .nil, rfl, rfl, fun j k v e => by simp at e⟩
  | _, _, .cons (a := p) (b := kv) h t => by
    obtain ⟨prs, us, r, hl, hl2, hp⟩ := pairs_ofT I t
    obtain ⟨its, rv, ht, _⟩ := I.tuple h
    obtain ⟨u, y, ei, ru, ry⟩ := vals2 rv
    subst ei
    refine ⟨(kv.1, y) :: prs, (u, y) :: us, .cons ⟨rfl, ry⟩ r, by rw [List.length_cons, List.length_cons, hl], by rw [List.length_cons, List.length_cons, hl2], fun j k v e => ?_⟩
    cases j with
    | zero =>
      have e' : (u, y) = (k, v) := Option.some.inj e
      cases e'
      exact ⟨p, kv.1, rfl, ht, rfl, kV_is (P := X.prog) (w := X.w) ru⟩
    | succ j =>
      obtain ⟨b, kk, e1, e2, e3, e4⟩ := hp j k v (by simpa using e)
      exact ⟨b, kk, by simpa using e1, e2, by simpa using e3, e4⟩
/-- dict(xs) of such a tuple -/
theorem cr_dictTF (hcalm : X.calm = true) : CallR X (.type "dict") (fun xs H Q => ∃ (a : Addr) (o : Obj) (ps : List Addr) (kvs : List (Key × V)), xs = [.ref a] ∧ H a = some (.frz o (.tup (ps.map V.ref))) ∧ o.dict = none ∧ Paired (fun p kv => SqT X.K H p [kV kv.1, kv.2]) ps kvs ∧
    ∀ p, H p = none → Q (.ref p) (upd H p (.dK (mergeK [] kvs)))) := by
  intro pins s σ H xs us Q I r q
  obtain ⟨a, o, ps, kvs, ex, hq, hdn, hp, q⟩ := q
  subst ex
  obtain ⟨u, eu, rx⟩ := vals1 r
  subst eu
  cases rx
  obtain ⟨ho, hz, its, rv, o', ho', hc, n, hdat⟩ := I.hok a _ hq
  obtain rfl : o' = o := Option.some.inj (ho'.symm.trans ho)
  have ei := refs_at rv
  subst ei
  rw [List.length_map] at hz
  obtain ⟨prs, vs, rel, hl, hl2, hpr⟩ := pairs_ofT I hp
  have hI : PairItems s.heap (ps.map Value.ref).toArray (fun j => (ps[j]?).getD 0) vs := by
    refine ⟨by simp [hl2], fun j k v e => ?_⟩
    obtain ⟨b, kk, e1, e2, e3, e4⟩ := hpr j k v e
    exact ⟨by simp [e1], .inl (by
      show s.heap.IsTuple ((ps[j]?).getD 0) #[k, v]
      rw [e1]
      exact e2)⟩
  refine PySem.call_dict_pairs (knd := mixKind X.prog X.w) (kvs := prs) (PairArg.tuple a (ps.map Value.ref).toArray (fun j => (ps[j]?).getD 0) vs) (I.ok.hd hcalm) ⟨⟨o', n, ho', hc, hdn, hdat⟩, hI⟩ ⟨by rw [hl, hl2], fun j k v e => ?_⟩ (by rw [hl2]; exact hz) fun h' tk hd' k => ?_
  · obtain ⟨b, kk, e1, e2, e3, e4⟩ := hpr j k v e
    exact ⟨kk, e3, e4⟩
  · have hm : (s.heap.objs.size == sysModules) = false := beq_eq_false_iff_ne.mpr (Nat.ne_of_gt I.big)
    have hlen : (mergeK [] kvs).length ≤ sizeLine := by
      refine Nat.le_trans (length_mergeK kvs []) ?_
      rw [List.length_nil, Nat.zero_add, rel.length, hl]
      exact hz
    exact ⟨.ref s.heap.objs.size, upd H s.heap.objs.size (.dK (mergeK [] kvs)), I.laid (t' := tk) (fun b ob e => k b ob (by simp) e) (Nat.le_refl _) (show ObjOk X.prog X.w _ _ _ (.dK (mergeK [] kvs)) from ⟨hlen, hm, merged [] prs, KV.merge rel .nil, hd'⟩), rfl, q _ (I.hok.fresh (Nat.le_refl _))⟩
/-- no key twice: the dict has the pairs as they stand -/
theorem merge_ent {f : Wd → V} : ∀ {ks : List Wd}, ks.Nodup → mergeK [] (entK f ks) = entK f ks := by
  have key : ∀ (ks ms : List Wd), (ms ++ ks).Nodup → mergeK (entK f ms) (entK f ks) = entK f (ms ++ ks) := by
    intro ks
    induction ks with
    | nil => intro ms _; rw [List.append_nil]; rfl
    | cons p r ih =>
      intro ms nd
      have np : p ∉ ms := fun h => by
        have := (List.nodup_append.mp nd).2.2 p h p (List.mem_cons_self ..)
        exact this rfl
      have e : mergeK (entK f ms) (entK f (p :: r)) = mergeK (putK (entK f ms) (kS p) (f p)) (entK f r) := rfl
      have e2 : putK (entK f ms) (kS p) (f p) = entK f (ms ++ [p]) := by
        rw [putK_ent]
        unfold more
        rw [if_neg np]
        refine entK_congr fun q _ => ?_
        unfold at'
        split
        · rename_i h; rw [h]
        · rfl
      rw [e, e2, ih (ms ++ [p]) (by rw [List.append_assoc]; exact nd), List.append_assoc]
      rfl
  exact fun {ks} nd => key ks [] nd
end
end Vs

set_option linter.all false
namespace Vm
/-! ### the pieces of a word with one sign more, and of two words -/
theorem win_app {k i : Nat} {x y : Wd} (h : i + k ≤ x.length) : win k (x ++ y) i = win k x i := by
  unfold win
  rw [List.drop_append_of_le_length (by omega), List.take_append_of_le_length (by rw [List.length_drop]; omega)]
theorem wins_snoc {k : Nat} {z : Wd} {c : Nat} (hk : 1 ≤ k) (h : k ≤ z.length + 1) : wins k (z ++ [c]) = wins k z ++ [z.drop (z.length + 1 - k) ++ [c]] := by
  unfold wins
  rw [List.length_append, List.length_singleton, show z.length + 1 + 1 - k = (z.length + 1 - k) + 1 by omega, List.range_succ, List.map_append]
  congr 1
  · refine List.map_congr_left fun i hi => ?_
    have hi := List.mem_range.mp hi
    exact win_app (by omega)
  · show [win k (z ++ [c]) (z.length + 1 - k)] = _
    unfold win
    rw [List.drop_append_of_le_length (by omega)]
    congr 1
    exact List.take_of_length_le (by rw [List.length_append, List.length_drop, List.length_singleton]; omega)
theorem often_snoc {k : Nat} {z p : Wd} {c : Nat} (hk : 1 ≤ k) (h : k ≤ z.length + 1) : often k (z ++ [c]) p = often k z p + (if z.drop (z.length + 1 - k) ++ [c] = p then 1 else 0) := by
  unfold often
  rw [wins_snoc hk h, List.count_append, List.count_singleton]
  congr 1
  simp [beq_iff_eq]
end Vm

set_option Elab.async false
set_option linter.all false
set_option maxRecDepth 100000
set_option maxHeartbeats 4000000
namespace Vm
/-! ### one letter put otherwise: the pieces of the stretch around it -/
/-- pieces of a stretch: the pieces that begin in it and end in it -/
theorem wins_part {k : Nat} (z : Wd) (i m : Nat) (hk : 1 ≤ k) (hm : i + m ≤ z.length) : wins k ((z.drop i).take m) = ((wins k z).drop i).take (m + 1 - k) := by
  have hl : ((z.drop i).take m).length = m := by rw [List.length_take, List.length_drop]; omega
  apply List.ext_getElem?
  intro j
  by_cases c : j < m + 1 - k
  · rw [wins_get (by rw [hl]; exact c), List.getElem?_take_of_lt c, List.getElem?_drop, wins_get (by omega)]
    unfold win
    rw [List.drop_take, List.drop_drop, List.take_take, Nat.min_eq_left (by omega)]
  · rw [List.getElem?_eq_none (by rw [wins_length, hl]; omega), List.getElem?_eq_none (by rw [List.length_take, List.length_drop, wins_length]; omega)]
def low (k a : Nat) : Nat := a + 1 - k
def stretch (k a : Nat) (z : Wd) : Wd := (z.drop (low k a)).take (a + k - low k a)
theorem stretch_is (k a : Nat) (z : Wd) (hk : 1 ≤ k) (ha : a < z.length) : stretch k a z = (z.drop (low k a)).take (min (a + k) z.length - low k a) := by
  unfold stretch
  rw [List.take_eq_take_iff, List.length_drop]
  unfold low
  omega
theorem wins_stretch {k a : Nat} {z : Wd} (hk : 1 ≤ k) (ha : a < z.length) : wins k (stretch k a z) = ((wins k z).drop (low k a)).take (a + 1 - low k a) := by
  rw [stretch_is k a z hk ha, wins_part z _ _ hk (by unfold low; omega), List.take_eq_take_iff, List.length_drop, wins_length]
  unfold low
  omega
theorem stretch_few {k a : Nat} {z : Wd} (hk : 1 ≤ k) (ha : a < z.length) : (wins k (stretch k a z)).length ≤ k := by
  rw [wins_stretch hk ha, List.length_take]
  unfold low
  omega
theorem stretch_length (k a : Nat) (z : Wd) : (stretch k a z).length ≤ z.length := by
  unfold stretch
  rw [List.length_take, List.length_drop]
  omega
def other (z : Wd) (a c : Nat) : Wd := z.take a ++ [c] ++ z.drop (a + 1)
theorem other_set {z : Wd} {a c : Nat} (ha : a < z.length) : other z a c = z.set a c := by
  unfold other
  rw [List.set_eq_take_append_cons_drop, if_pos ha, List.append_assoc]
  rfl
theorem other_length {z : Wd} {a c : Nat} (ha : a < z.length) : (other z a c).length = z.length := by rw [other_set ha, List.length_set]
/-- pieces that don't stand over it stay -/
theorem win_other {k a c i : Nat} {z : Wd} (hk : 1 ≤ k) (ha : a < z.length) (h : i + k ≤ a ∨ a < i) : win k (other z a c) i = win k z i := by
  rw [other_set ha]
  unfold win
  apply List.ext_getElem?
  intro j
  by_cases hj : j < k
  · rw [List.getElem?_take_of_lt hj, List.getElem?_take_of_lt hj, List.getElem?_drop, List.getElem?_drop, List.getElem?_set_ne (by omega)]
  · rw [List.getElem?_eq_none (by rw [List.length_take]; omega), List.getElem?_eq_none (by rw [List.length_take]; omega)]
theorem wins_head {k a c : Nat} {z : Wd} (hk : 1 ≤ k) (ha : a < z.length) : (wins k (other z a c)).take (low k a) = (wins k z).take (low k a) := by
  apply List.ext_getElem?
  intro j
  by_cases hj : j < low k a
  · rw [List.getElem?_take_of_lt hj, List.getElem?_take_of_lt hj]
    by_cases c1 : j < z.length + 1 - k
    · rw [wins_get (by rw [other_length ha]; exact c1), wins_get c1, win_other hk ha (.inl (by unfold low at hj; omega))]
    · rw [List.getElem?_eq_none (by rw [wins_length, other_length ha]; omega), List.getElem?_eq_none (by rw [wins_length]; omega)]
  · rw [List.getElem?_eq_none (by rw [List.length_take]; omega), List.getElem?_eq_none (by rw [List.length_take]; omega)]
theorem wins_tail {k a c : Nat} {z : Wd} (hk : 1 ≤ k) (ha : a < z.length) : (wins k (other z a c)).drop (a + 1) = (wins k z).drop (a + 1) := by
  apply List.ext_getElem?
  intro j
  rw [List.getElem?_drop, List.getElem?_drop]
  by_cases c1 : a + 1 + j < z.length + 1 - k
  · rw [wins_get (by rw [other_length ha]; exact c1), wins_get c1, win_other hk ha (.inr (by omega))]
  · rw [List.getElem?_eq_none (by rw [wins_length, other_length ha]; omega), List.getElem?_eq_none (by rw [wins_length]; omega)]
theorem often_cut {k a : Nat} {z p : Wd} (hk : 1 ≤ k) (ha : a < z.length) : often k z p = ((wins k z).take (low k a)).count p + (often k (stretch k a z) p + ((wins k z).drop (a + 1)).count p) := by
  unfold often
  rw [wins_stretch hk ha]
  have e : (wins k z).drop (a + 1) = ((wins k z).drop (low k a)).drop (a + 1 - low k a) := by
    rw [List.drop_drop]
    congr 1
    unfold low
    omega
  rw [e, ← List.count_append, List.take_append_drop, ← List.count_append, List.take_append_drop]
/-- what goes and what comes -/
theorem often_other {k a c : Nat} {z p : Wd} (hk : 1 ≤ k) (ha : a < z.length) : often k z p + often k (stretch k a (other z a c)) p = often k (other z a c) p + often k (stretch k a z) p := by
  rw [often_cut hk ha, often_cut (z := other z a c) hk (by rw [other_length ha]; exact ha), wins_head hk ha, wins_tail hk ha]
  omega
/-- the numbers of a table, together -/
theorem sum_count {l : List Wd} : ∀ {ks : List Wd}, ks.Nodup → (∀ x ∈ l, x ∈ ks) → (ks.map fun p => l.count p).sum = l.length := by
  induction l with
  | nil =>
    intro ks _ _
    have : (ks.map fun p => ([] : List Wd).count p) = ks.map fun _ => 0 := List.map_congr_left fun p _ => List.count_nil
    rw [this]
    clear this
    have z : ∀ ks : List Wd, (ks.map fun _ => 0).sum = 0 := fun ks => by
      induction ks with
      | nil => rfl
      | cons p r ih => rw [List.map_cons, List.sum_cons, ih]
    exact z ks
  | cons x l ih =>
    intro ks nd h
    have hx := h x (List.mem_cons_self ..)
    have e := ih nd fun y hy => h y (List.mem_cons_of_mem _ hy)
    have s : ∀ (ks : List Wd), ks.Nodup → (ks.map fun p => (x :: l).count p).sum = (ks.map fun p => l.count p).sum + (if x ∈ ks then 1 else 0) := by
      intro ks nd
      induction ks with
      | nil => rfl
      | cons p r ih2 =>
        obtain ⟨n1, n2⟩ := List.nodup_cons.mp nd
        rw [List.map_cons, List.map_cons, List.sum_cons, List.sum_cons, ih2 n2, List.count_cons]
        by_cases c : x = p
        · subst c
          rw [if_neg n1, if_pos (List.mem_cons_self ..)]
          simp
          omega
        · have c2 : ¬ (x == p) = true := by simpa using c
          rw [if_neg c2]
          by_cases d : x ∈ r
          · rw [if_pos d, if_pos (List.mem_cons_of_mem _ d)]
            omega
          · rw [if_neg d, if_neg fun m => (List.mem_cons.mp m).elim c d]
            omega
    rw [s ks nd, e, if_pos hx]
    rfl
theorem sum_tabs (k : Nat) (z : Wd) : ((tab k z).map (·.2)).sum = (wins k z).length := by
  unfold tab
  rw [List.map_map]
  exact sum_count (up_nodup (up_asc _)) fun x hx => mem_asc.mpr hx
end Vm

set_option Elab.async false
set_option linter.all false
set_option maxRecDepth 100000
set_option maxHeartbeats 4000000
namespace Vf
open PySem PySem.Spec PyProof.Rows L2 L2.Vx Vs Vm
/-! ### pieces, as a tuple whose object is told -/
def TabF (H : Hp) (S : Addr → Prop) (a : Addr) (xs : List V) (f : Wd → Int) (l : List Wd) : Prop := ∃ o, H a = some (.frz o (.tup xs)) ∧ o.dict = none ∧ DtAll H S xs (l.map (pairD f))
theorem TabF.same {H H' : Hp} {S : Addr → Prop} {a : Addr} {xs : List V} {f : Wd → Int} {l : List Wd} (h : TabF H S a xs f l) (s : Same H H') : TabF H' S a xs f l := by
  obtain ⟨o, h1, h2, h3⟩ := h
  exact ⟨o, s _ _ h1, h2, h3.mono (fun a o _ e => s a o e) fun _ _ x _ => x⟩
theorem TabF.new {H0 H1 H : Hp} {a : Addr} {xs : List V} {f : Wd → Int} {l : List Wd} (h : TabF H (New H1) a xs f l) (s : Same H0 H1) : TabF H (New H0) a xs f l := by
  obtain ⟨o, h1, h2, h3⟩ := h
  exact ⟨o, h1, h2, h3.mono (fun _ _ _ e => e) fun _ _ x _ => s.free x⟩
theorem TabF.seq {K : PySem.W.Frag} {H : Hp} {S : Addr → Prop} {a : Addr} {xs : List V} {f : Wd → Int} {l : List Wd} (h : TabF H S a xs f l) : SqT K H a xs := by
  obtain ⟨o, h1, h2, h3⟩ := h
  exact .inl (.inr ⟨o, h1⟩)
theorem TabF.len {H : Hp} {S : Addr → Prop} {a : Addr} {xs : List V} {f : Wd → Int} {l : List Wd} (h : TabF H S a xs f l) : xs.length = l.length := by
  obtain ⟨o, h1, h2, h3⟩ := h
  have : ∀ {vs : List V} {ds : List PyData}, DtAll H S vs ds → vs.length = ds.length := fun h => by
    induction h using DtAll.rec (motive_1 := fun _ _ _ => True) with
    | nil => rfl
    | cons _ _ _ ih => rw [List.length_cons, List.length_cons, ih]
    | _ => trivial
  rw [this h3, List.length_map]
theorem dtA_idx {H : Hp} {S : Addr → Prop} {f : Wd → Int} : ∀ {xs : List V} {l : List Wd}, DtAll H S xs (l.map (pairD f)) → ∀ {i : Nat} {v : V}, xs[i]? = some v → ∃ p e, l[i]? = some p ∧ v = .ref e ∧ H e = some (.tup [.str (mkS p), .int (f p)])
  | _ :: _, _ :: _, .cons h r, 0, v, e => by
    obtain ⟨a, e1, e2, _⟩ := ps_pair h
    cases (show _ = v from Option.some.inj e)
    exact ⟨_, a, rfl, e1, e2⟩
  | _ :: _, _ :: _, .cons h r, i + 1, v, e => by
    obtain ⟨p, a, h1, h2, h3⟩ := dtA_idx r (i := i) (v := v) (by simpa using e)
    exact ⟨p, a, by simpa using h1, h2, h3⟩
theorem TabF.at {H : Hp} {S : Addr → Prop} {a : Addr} {xs : List V} {f : Wd → Int} {l : List Wd} (h : TabF H S a xs f l) {i : Nat} {v : V} (e : xs[i]? = some v) : ∃ p e, l[i]? = some p ∧ v = .ref e ∧ H e = some (.tup [.str (mkS p), .int (f p)]) := by
  obtain ⟨o, h1, h2, h3⟩ := h
  exact dtA_idx h3 e
theorem dtA_refs {K : PySem.W.Frag} {H : Hp} {S : Addr → Prop} {f : Wd → Int} : ∀ {xs : List V} {l : List Wd}, DtAll H S xs (l.map (pairD f)) → ∃ ps : List Addr, xs = ps.map .ref ∧ Paired (fun p kv => SqT K H p [kV kv.1, kv.2]) ps (entK (fun p => .int (f p)) l)
  | [], [], .nil => ⟨[], rfl, .nil⟩
  | _ :: _, _ :: _, .cons h r => by
    obtain ⟨a, e1, e2, _⟩ := ps_pair h
    obtain ⟨ps, h1, h2⟩ := dtA_refs (K := K) r
    subst e1
    exact ⟨a :: ps, by rw [h1]; rfl, .cons (SqT.of e2) h2⟩
def spPairsF (K : PySem.W.Frag) : Sp := fun vs H Q _ => ∃ (d : Addr) (f : Wd → Int) (ks : List Wd), vs = [.ref d] ∧ H d = some (.dK (entK (fun p => .int (f p)) ks)) ∧ ks.Nodup ∧ ks.length ≤ 4000 ∧
  ∀ a xs H', Same H H' → TabF H' (New H) a xs f (asc ks) → Q (.ref a) H'
def spPiecesF (K : PySem.W.Frag) : Sp := fun vs H Q _ => ∃ (k : Nat) (z : Wd), vs = [.int k, .str (mkS z)] ∧ 1 ≤ k ∧ k ≤ 1000000 ∧ z.length ≤ 4000 ∧
  ∀ a xs H', Same H H' → TabF H' (New H) a xs (fun p => (often k z p : Int)) (asc (wins k z)) → Q (.ref a) H'
section
variable {P : Program} {w : World} {K : PySem.W.Frag} {mg : Str → Option Value} {base : Heap}
theorem ok_pairsF {f : Addr} {fd : FuncData} (F : Fun K "in_pairs" "in_pairs" sPairs f fd) (T : TxtP mg) : FnOk P w K mg base CX0 1 f fd ["numbers"] (spPairsF K) := by
  refine F.ok scPairs (fun vs H Q E h => ?_) (fun cdv A outer s H vs Q E hr h => ?_)
  · obtain ⟨d, g, ks, rfl, _⟩ := h
    rfl
  obtain ⟨d, g, ks, rfl, hd, nd, hl, q⟩ := h
  have hu := hu_of hr
  refine ⟨_, pss_one (ps_ret (pe_callTy call_tuple_ofF (by rfl) T.tuple (by decide +kernel) (pa_cons (pe_lc (own := [("piece", 1)]) (g := gName 1) (tt := tYes) rfl scPairs.nd
      (pi_list (pe_callB (cr_sortedTxAt (P := P) (w := w) rfl rfl rfl) (by rfl) T.sorted (by decide +kernel) (pa_cons (pe_callTy (cr_setDictAt (P := P) (w := w) rfl rfl rfl) (by rfl) T.set (by decide +kernel) (pa_cons (pv 0) pa_nil)) pa_nil)))
      (blkOk_by (N := ["numbers", "piece"]) (sc := defScope sPairs) (by decide +kernel)) (fun _ _ _ _ _ => pg_name (i := 1) scPairs.nd rfl (Or.inl rfl)) (fun _ _ _ _ _ => pts_nil)
      (fun _ _ _ _ _ => by exact pe_tup (pa_cons (pv 1) (pa_cons (pe_dget hu (pv 0) (pv 1) (fun _ _ => rfl)) pa_nil)))) pa_nil))), ?_⟩
  refine ⟨_, rfl, d, _, ks, rfl, .inl hd, nd, hl, fun p l hp hpl => ?_⟩
  have s1 := same_new hp (SetTxO P w p l)
  refine ⟨p, l, ks, rfl, upd_same, hpl, nd, hl, fun u hu' => ?_⟩
  have s2 := s1.trans (same_new hu' (.lst (((asc ks).map mkS).map .str)))
  have eu : upd (upd H p (SetTxO P w p l)) u (.lst (((asc ks).map mkS).map .str)) u = some (.lst (((asc ks).map mkS).map .str)) := upd_same
  have ed := s2 _ _ hd
  generalize upd (upd H p (SetTxO P w p l)) u (.lst (((asc ks).map mkS).map .str)) = H1 at s2 eu ed ⊢
  refine ⟨u, rfl, ⟨_, SqL.of eu⟩, fun D hD => ?_⟩
  have hD0 := s2.free hD
  have la := asc_length_le ks
  refine lc_it (walk_list (xs := ((asc ks).map mkS).map .str)) (fun i H' => ∃ vs, H' D = some (.lst vs) ∧ vs.length = i ∧ DtAll H' (fun a => H1 a = none ∧ a ≠ D) vs (((asc ks).take i).map (pairD g)) ∧ Same H1 H')
    ⟨[], upd_same, rfl, .nil, same_new hD _⟩ (fun i H' _ ⟨_, _, _, _, s⟩ => s.seq (SqL.of eu)) ?_ ?_
  · rintro i x H2 H3 hi ⟨vs, k1, k2, k3, k4⟩ ⟨rfl, hx⟩
    obtain ⟨y, hy, rfl⟩ := str_at hx
    have hyk : y ∈ ks := mem_asc.mp (List.mem_of_getElem? hy)
    refine ⟨rfl, _, rfl, _, rfl, _, rfl, d, _, rfl, get_ent (k4 _ _ ed) hyk, (by show 2 ≤ sizeLine; decide), fun t ht => ?_⟩
    have htD : t ≠ D := (ne_of_none k1 ht).symm
    have hil : i < (asc ks).length := by rw [List.length_map, List.length_map] at hi; exact hi
    have ht1 : H1 t = none := k4.free ht
    refine ⟨_, by rw [upd_ne htD.symm]; exact k1, (by rw [k2, sizeLine_eq]; omega), vs ++ [.ref t], upd_same, by rw [List.length_append, k2]; rfl, ?_, fun b o e => ?_⟩
    · rw [List.take_add_one, hy, List.map_append]
      exact dtAll_snoc k3 (fun a z => z.2) ht ⟨ht1, htD⟩ (.tup (xs := [.str (mkS y), .int (g y)]) (by rw [upd_ne htD]; exact upd_same) ⟨ht1, htD⟩ (.cons (.flat (show FlatD (.str (mkS y)) (.str (mkS y)) from rfl)) (.cons (.flat (show FlatD (.int (g y)) (.int (g y)) from rfl)) .nil)))
    · rw [upd_ne (ne_of_none e hD)]
      exact same_new ht _ _ _ (k4 b o e)
  · rintro H2 ⟨vs, k1, k2, k3, k4⟩
    rw [List.length_map, List.length_map, List.take_length] at k3
    refine ⟨D, _, rfl, SqL.of k1, fun t o ht hdn => ?_⟩
    have s3 := same_new ht (.frz o (.tup vs))
    refine q t vs _ ((s2.trans k4).trans s3) ⟨o, upd_same, hdn, k3.mono (fun a o _ e => s3 a o e) fun a o sa _ => s2.free sa.1⟩
theorem ok_piecesF {f fA : Addr} {fd fdA : FuncData} (F : Fun K "pieces_of" "pieces_of" sPieces f fd) (T : TxtP mg)
    (GA : FnOk P w K mg base CX0 1 fA fdA ["numbers"] (spPairsF K)) (bA : Binds K fdA ["numbers"] []) (kA : PySem.W.keepIn K (.ref fA) = true) (mA : mg "in_pairs" = some (.ref fA)) :
    FnOk P w K mg base CX0 2 f fd ["width", "text"] (spPiecesF K) := by
  refine F.ok scPieces (fun vs H Q E h => ?_) (fun cdv A outer s H vs Q E hr h => ?_)
  · obtain ⟨k, z, rfl, _⟩ := h
    rfl
  obtain ⟨k, z, rfl, hk1, hk2, hz, q⟩ := h
  have hu := hu_of hr
  refine ⟨_, pss_cons (ps_set (i := 2) scPieces.nd rfl (Or.inl rfl) pe_dnewK)
    (pss_cons (ps_for PassesOwn.never rfl (pi_range1 rfl T.range (pa_cons (pe_op op_add (pe_op op_sub (pe_callB call_len_str (by rfl) T.len PySem.boot_len (pa_cons (pv 1) pa_nil)) (pv 0)) pe_int) pa_nil)) (pg_name (i := 3) scPieces.nd rfl (Or.inl rfl))
      (pss_cons (ps_set (i := 4) scPieces.nd rfl (Or.inl rfl) (pe_slice sl_str (pv 1) (po_some (pv 3)) (po_some (pe_op op_add (pv 3) (pv 0)))))
      (pss_one (ps_dput hu (pv 2) (pv 4) (pe_op op_add (pe_dget2 hu (pv 2) (pv 4) pe_int ⟨rfl, rfl, rfl, rfl⟩) pe_int) rfl))))
    (pss_one (ps_ret (pe_call GA hr rfl mA kA bA .nil pass0 (pa_cons (pv 2) pa_nil))))), ?_⟩
  intro d hd
  have hlz : (mkS z).length = z.length := mkS_length z
  have hz16 : (mkS z).length ≤ sizeLine := by rw [hlz, sizeLine_eq]; omega
  refine ⟨_, rfl, _, rfl, hz16, _, rfl, _, _, rfl, rfl, _, _, rfl, rfl, _, rfl, by rw [hlz]; omega, by rw [hlz]; omega, ?_⟩
  have hn : ((((mkS z).length : Nat) : Int) - k + 1).toNat = z.length + 1 - k := by rw [hlz]; omega
  rw [hn]
  refine for_range (lo := 0) (n := z.length + 1 - k) (fun i σ H' => ∃ (v3 v4 : Option V) (ks : List Wd), σ = [some (.int k), some (.str (mkS z)), some (.ref d), v3, v4] ∧ ks.Nodup ∧ (∀ p, p ∈ ks ↔ p ∈ (wins k z).take i) ∧ ks.length ≤ i ∧
      H' d = some (.dK (entK (fun p => .int (upto k z p i : Nat)) ks)) ∧ Same H H') ⟨none, none, [], rfl, List.nodup_nil, fun p => by simp, Nat.le_refl _, upd_same, same_new hd _⟩ ?_ ?_
  · rintro i σ H1 hi ⟨v3, v4, ks, rfl, nd, mem, hl, hd1, s1⟩
    refine ⟨_, rfl, _, rfl, _, rfl, _, rfl, _, rfl, _, _, rfl, rfl, _, rfl, _, rfl, hz16, ?_⟩
    rw [show ((0 : Int) + (i : Nat)) = (i : Nat) from Int.zero_add _, cut_win hi]
    refine ⟨_, rfl, d, rfl, .inl ⟨_, .inl hd1⟩, _, rfl, _, DGet.k (k := kS (win k z i)) hd1, ?_⟩
    rw [getD_ent (f := fun p => V.int (upto k z p i : Nat)) (v := .int 0) fun c => by rw [upto_zero fun x => c ((mem _).mpr x)]; rfl]
    refine ⟨_, _, rfl, rfl, _, rfl, _, rfl, d, _, rfl, DPut.k (k := kS (win k z i)) hd1 (by rw [entK_length, sizeLine_eq]; omega), ?_⟩
    refine ⟨_, _, more ks (win k z i), rfl, more_nodup nd _, fun p => ?_, Nat.le_trans (more_length _ _) (Nat.succ_le_succ hl), ?_, fun b o e => ?_⟩
    · rw [mem_more, mem_take_succ hi, mem p]
    · rw [upd_same, putK_ent]
      refine congrArg (fun x => some (HO.dK x)) (entK_congr fun p _ => ?_)
      unfold at'
      by_cases c : p = win k z i
      · subst c
        rw [if_pos rfl, upto_hit hi rfl]
        rfl
      · rw [if_neg c, upto_miss hi c]
    · rw [upd_ne (ne_of_none e hd)]
      exact s1 b o e
  · rintro σ H1 ⟨v3, v4, ks, rfl, nd, mem, hl, hd1, s1⟩
    have e0 : (wins k z).take (z.length + 1 - k) = wins k z := List.take_of_length_le (by rw [wins_length]; exact Nat.le_refl _)
    rw [e0] at mem
    refine ⟨_, rfl, d, _, ks, rfl, hd1, nd, by omega, fun v xs H2 s2 hv => ?_⟩
    refine q v xs H2 (s1.trans s2) ?_
    rw [← asc_congr mem]
    have e1 : (fun p => ((upto k z p (z.length + 1 - k) : Nat) : Int)) = fun p => ((often k z p : Nat) : Int) := funext fun p => by rw [upto_all (Nat.le_refl _)]
    rw [← e1]
    exact hv.new s1
end
end Vf

set_option Elab.async false
set_option linter.all false
set_option maxRecDepth 100000
set_option maxHeartbeats 4000000
namespace Vf
open PySem PySem.Spec PyProof.Rows L2 L2.Vx Vs Vm
abbrev sLess : Stmt := top 28
/-! ### numbers of pieces, less those of one stretch, with those of another one -/
def listD (f : Wd → Int) (l : List Wd) : PyData := .list (l.map (pairD f))
def spLess (K : PySem.W.Frag) : Sp := fun vs H Q _ => ∃ (a b c : Addr) (xs ys zs : List V) (f g h : Wd → Int) (l m n : List Wd) (S1 S2 S3 : Addr → Prop), vs = [.ref a, .ref b, .ref c] ∧ TabF H S1 a xs f l ∧ TabF H S2 b ys g m ∧ TabF H S3 c zs h n ∧
  l.Nodup ∧ m.Nodup ∧ n.Nodup ∧ (∀ p, p ∉ l → f p = 0) ∧ (∀ p, p ∉ m → g p = 0) ∧ (∀ p, p ∉ n → h p = 0) ∧ l.length ≤ 1000 ∧ m.length ≤ 1000 ∧ n.length ≤ 1000 ∧
  ∀ (o : List Wd), (∀ p, p ∈ o ↔ f p - g p + h p ≠ 0) → ∀ (u : Addr) H', Same H H' → Dt H' (fun _ => True) (.ref u) (listD (fun p => f p - g p + h p) (asc o)) → Q (.ref u) H'
structure TxtLs (mg : Str → Option Value) : Prop where
  dict : mg "dict" = none
  sorted : mg "sorted" = none
def NumS (f : Wd → Int) (n : Nat) (H : Hp) (d : Addr) : Prop := ∃ ks : List Wd, ks.Nodup ∧ (∀ p, p ∉ ks → f p = 0) ∧ ks.length ≤ n ∧ H d = some (.dK (entK (fun p => .int (f p)) ks))
theorem NumS.next {f f' : Wd → Int} {n : Nat} {ks : List Wd} {H : Hp} {d : Addr} {p : Wd} {m : Int} (nd : ks.Nodup) (nz : ∀ p, p ∉ ks → f p = 0) (hl : ks.length ≤ n) (hf : ∀ q, f' q = if q = p then m else f q) : NumS f' (n + 1) (upd H d (.dK (putK (entK (fun p => V.int (f p)) ks) (kS p) (.int m)))) d := by
  refine ⟨more ks p, more_nodup nd _, fun q hq => ?_, Nat.le_trans (more_length _ _) (Nat.succ_le_succ hl), ?_⟩
  · rw [hf, if_neg fun e => hq (mem_more.mpr (.inr e))]
    exact nz q fun e => hq (mem_more.mpr (.inl e))
  · rw [upd_same, putK_ent]
    refine congrArg (fun x => some (HO.dK x)) (entK_congr fun q _ => ?_)
    unfold at'
    rw [hf q]
    by_cases e : q = p
    · rw [if_pos e, if_pos e]
    · rw [if_neg e, if_neg e]
theorem take_new {l : List Wd} {i : Nat} {p : Wd} (nd : l.Nodup) (h : l[i]? = some p) : p ∉ l.take i := fun hm => by
  obtain ⟨hi, e⟩ := List.getElem?_eq_some_iff.mp h
  obtain ⟨j, hj, e2⟩ := List.getElem_of_mem hm
  rw [List.length_take] at hj
  rw [List.getElem_take] at e2
  have := (List.getElem_inj nd).mp (e2.trans e.symm)
  omega
theorem take_next {l : List Wd} {i : Nat} {p : Wd} (h : l[i]? = some p) {q : Wd} : q ∈ l.take (i + 1) ↔ q ∈ l.take i ∨ q = p := by
  rw [List.take_add_one, h, List.mem_append]
  simp
theorem get_entR {H : Hp} {d : Addr} {f : Wd → V} {ks : List Wd} {p : Wd} (e : Rd H d (.dK (entK f ks))) (h : p ∈ ks) : DGet H d (.str (mkS p)) (some (f p)) :=
  .inl ⟨_, kS p, e, rfl, by rw [valV_ent, if_pos h]⟩
section
variable {P : Program} {w : World} {K : PySem.W.Frag} {mg : Str → Option Value} {base : Heap}
abbrev nLess : List Str := ["_law_some", "_law_gone", "_law_come", "_law_found", "_law_bit", "_law_number"]
theorem scLess : FnScope nLess ["_law_some", "_law_gone", "_law_come"] (defScope sLess) := ⟨rfl, rfl, rfl, by decide +kernel, rfl, by decide +kernel, by decide +kernel⟩
theorem ok_less {f : Addr} {fd : FuncData} (F : Fun K "_law_less" "_law_less" sLess f fd) (T : TxtLs mg) : FnOk P w K mg base CX0 1 f fd ["_law_some", "_law_gone", "_law_come"] (spLess K) := by
  refine F.ok scLess (fun vs H Q E h => ?_) (fun cdv A outer s H vs Q E hr h => ?_)
  · obtain ⟨a, b, c, xs, ys, zs, f, g, h, l, m, n, S1, S2, S3, rfl, _⟩ := h
    rfl
  obtain ⟨a, b, c, xs, ys, zs, f, g, h, l, m, n, S1, S2, S3, rfl, t1, t2, t3, nd1, nd2, nd3, z1, z2, z3, l1, l2, l3, q⟩ := h
  have hu := hu_of hr
  refine ⟨_, pss_cons (ps_set (i := 3) scLess.nd rfl (Or.inr rfl) (pe_callTy (cr_dictTF rfl) (by rfl) T.dict (by decide +kernel) (pa_cons (pv 0) pa_nil)))
    (pss_cons (ps_for PassesOwn.never rfl (pi_tup (pv 1)) (pg_tup rfl (pgs_cons (pg_name (i := 4) scLess.nd rfl (Or.inl rfl)) (pgs_cons (pg_name (i := 5) scLess.nd rfl (Or.inl rfl)) pgs_nil)))
      (pss_one (ps_dput hu (pv 3) (pv 4) (pe_op op_sub (pe_dget2 hu (pv 3) (pv 4) pe_int ⟨rfl, rfl, rfl, rfl⟩) (pv 5)) rfl)))
    (pss_cons (ps_for PassesOwn.never rfl (pi_tup (pv 2)) (pg_tup rfl (pgs_cons (pg_name (i := 4) scLess.nd rfl (Or.inl rfl)) (pgs_cons (pg_name (i := 5) scLess.nd rfl (Or.inl rfl)) pgs_nil)))
      (pss_one (ps_dput hu (pv 3) (pv 4) (pe_op op_add (pe_dget2 hu (pv 3) (pv 4) pe_int ⟨rfl, rfl, rfl, rfl⟩) (pv 5)) rfl)))
    (pss_one (ps_ret (pe_lock (pe_callB cr_sortedPD (by rfl) T.sorted (by decide +kernel) (pa_cons (pe_lc (own := [("_law_bit", 4)]) (g := gName 4) (tt := _) rfl scLess.nd (pi_keys (pv 3))
      (blkOk_by (N := nLess) (sc := defScope sLess) (by decide +kernel)) (fun _ _ _ _ _ => pg_name (i := 4) scLess.nd rfl (Or.inl rfl)) (fun _ _ _ _ _ => by exact pts_one (pt_cmpR op_ne (pe_dget hu (pv 3) (pv 4) (fun _ _ => rfl)) pe_int (nomark _)))
      (fun _ _ _ _ _ => by exact pe_tup (pa_cons (pv 4) (pa_cons (pe_dget hu (pv 3) (pv 4) (fun _ _ => rfl)) pa_nil)))) pa_nil))))))), ?_⟩
  have t1' := t1
  obtain ⟨o1, e1, dn1, da1⟩ := t1'
  obtain ⟨ps, rfl, pp⟩ := dtA_refs (K := K) da1
  refine ⟨_, rfl, a, o1, ps, _, rfl, e1, dn1, pp, fun d hd => ?_⟩
  rw [merge_ent nd1]
  have s0 := same_new hd (.dK (entK (fun p => V.int (f p)) l))
  refine ⟨_, rfl, b, rfl, ⟨ys, (t2.same s0).seq⟩, for_tup (K := K) (a := b) (xs := ys) (fun i σ H' => ∃ v4 v5, σ = [some (.ref a), some (.ref b), some (.ref c), some (.ref d), v4, v5] ∧ NumS (fun p => f p - if p ∈ m.take i then g p else 0) (1000 + i) H' d ∧ Same H H')
    ⟨none, none, rfl, ⟨l, nd1, fun p hp => by simp [z1 p hp], by omega, by simp [upd_same]⟩, s0⟩ (fun i σ H' _ ⟨_, _, _, _, s⟩ => (t2.same s).seq) ?_ ?_⟩
  · rintro i y σ H1 hi ⟨v4, v5, rfl, ⟨ks, nd, nz, hl, hd1⟩, s1⟩
    obtain ⟨p, e, hp, rfl, he⟩ := (t2.same s1).at hi
    have hil : i < m.length := (List.getElem?_eq_some_iff.mp hp).1
    refine ⟨e, _, rfl, SqT.of he, rfl, _, _, rfl, _, _, rfl, rfl, ?_⟩
    refine ⟨_, rfl, d, rfl, .inl ⟨_, .inl hd1⟩, _, rfl, _, DGet.k (k := kS p) hd1, ?_⟩
    rw [getD_ent (f := fun p => V.int (f p - if p ∈ m.take i then g p else 0)) fun c => congrArg V.int (nz p c)]
    refine ⟨_, rfl, _, _, rfl, rfl, _, rfl, _, rfl, d, _, rfl, DPut.k (k := kS p) hd1 (by rw [entK_length, sizeLine_eq]; omega), ?_⟩
    refine ⟨_, _, rfl, NumS.next nd nz hl fun q => ?_, fun b' o' e' => ?_⟩
    · by_cases c : q = p
      · subst c
        rw [if_pos (take_next hp |>.mpr (.inr rfl)), if_pos rfl, if_neg (take_new nd2 hp)]
        omega
      · rw [if_neg c]
        by_cases c2 : q ∈ m.take i
        · rw [if_pos (take_next hp |>.mpr (.inl c2)), if_pos c2]
        · rw [if_neg fun x => ((take_next hp).mp x).elim c2 c, if_neg c2]
    · rw [upd_ne (ne_of_none e' hd)]
      exact s1 b' o' e'
  rintro σ H1 ⟨v4, v5, rfl, N1, s1⟩
  have eN : (fun p => f p - if p ∈ m.take ys.length then g p else 0) = fun p => f p - g p := funext fun p => by
    rw [t2.len, List.take_length]
    by_cases c : p ∈ m
    · rw [if_pos c]
    · rw [if_neg c, z2 p c]
  rw [eN] at N1
  refine ⟨_, rfl, c, rfl, ⟨zs, (t3.same s1).seq⟩, for_tup (K := K) (a := c) (xs := zs) (fun i σ H' => ∃ v4 v5, σ = [some (.ref a), some (.ref b), some (.ref c), some (.ref d), v4, v5] ∧ NumS (fun p => f p - g p + if p ∈ n.take i then h p else 0) (2000 + i) H' d ∧ Same H H')
    ⟨v4, v5, rfl, ?_, s1⟩ (fun i σ H' _ ⟨_, _, _, _, s⟩ => (t3.same s).seq) ?_ ?_⟩
  · obtain ⟨ks, nd, nz, hl, hd1⟩ := N1
    refine ⟨ks, nd, fun p hp => by simpa using nz p hp, by rw [t2.len] at hl; omega, ?_⟩
    rw [hd1]
    simp
  · rintro i y σ H1 hi ⟨v4, v5, rfl, ⟨ks, nd, nz, hl, hd1⟩, s1⟩
    obtain ⟨p, e, hp, rfl, he⟩ := (t3.same s1).at hi
    have hil : i < n.length := (List.getElem?_eq_some_iff.mp hp).1
    refine ⟨e, _, rfl, SqT.of he, rfl, _, _, rfl, _, _, rfl, rfl, ?_⟩
    refine ⟨_, rfl, d, rfl, .inl ⟨_, .inl hd1⟩, _, rfl, _, DGet.k (k := kS p) hd1, ?_⟩
    rw [getD_ent (f := fun p => V.int (f p - g p + if p ∈ n.take i then h p else 0)) fun c => congrArg V.int (nz p c)]
    refine ⟨_, rfl, _, _, rfl, rfl, _, rfl, _, rfl, d, _, rfl, DPut.k (k := kS p) hd1 (by rw [entK_length, sizeLine_eq]; omega), ?_⟩
    refine ⟨_, _, rfl, NumS.next nd nz hl fun q => ?_, fun b' o' e' => ?_⟩
    · by_cases c : q = p
      · subst c
        rw [if_pos (take_next hp |>.mpr (.inr rfl)), if_pos rfl, if_neg (take_new nd3 hp)]
        omega
      · rw [if_neg c]
        by_cases c2 : q ∈ n.take i
        · rw [if_pos (take_next hp |>.mpr (.inl c2)), if_pos c2]
        · rw [if_neg fun x => ((take_next hp).mp x).elim c2 c, if_neg c2]
    · rw [upd_ne (ne_of_none e' hd)]
      exact s1 b' o' e'
  rintro σ H1 ⟨v4, v5, rfl, N2, s1⟩
  have eN2 : (fun p => f p - g p + if p ∈ n.take zs.length then h p else 0) = fun p => f p - g p + h p := funext fun p => by
    rw [t3.len, List.take_length]
    by_cases c : p ∈ n
    · rw [if_pos c]
    · rw [if_neg c, z3 p c]
  rw [eN2] at N2
  generalize hF : (fun p => f p - g p + h p) = F at N2
  obtain ⟨ks, nd, nz, hl, hd1⟩ := N2
  rw [t3.len] at hl
  refine ⟨d, _, hd1, trivial, fun od => ?_⟩
  have e2 : upd H1 d (.frz od (.dK (entK (fun p => V.int (F p)) ks))) d = some (.frz od (.dK (entK (fun p => V.int (F p)) ks))) := upd_same
  have k2 : ∀ b, b ≠ d → upd H1 d (.frz od (.dK (entK (fun p => V.int (F p)) ks))) b = H1 b := fun b hb => upd_ne hb
  generalize upd H1 d (.frz od (.dK (entK (fun p => V.int (F p)) ks))) = H2 at e2 k2 ⊢
  refine ⟨_, rfl, d, od, rfl, .inl ⟨_, e2, fun D hD => ?_⟩⟩
  have hDd : D ≠ d := (ne_of_none e2 hD).symm
  refine lc_it walk_keys (fun i H' => ∃ vs, H' D = some (.lst vs) ∧ vs.length ≤ i ∧ DtAll H' (fun a => H2 a = none ∧ a ≠ D) vs (((ks.take i).filter fun p => decide (F p ≠ 0)).map (pairD F)) ∧ Same H2 H')
    ⟨[], upd_same, Nat.le_refl _, .nil, same_new hD _⟩ (fun i H' _ ⟨_, _, _, _, s⟩ => s _ _ e2) ?_ ?_
  · rintro i x H3 H4 hi ⟨vs, n1, n2, n3, n4⟩ ⟨rfl, kk, vv, hkv, rfl⟩
    rw [entK_length] at hi
    obtain ⟨p, hp, ep⟩ : ∃ p, ks[i]? = some p ∧ (kS p, V.int (F p)) = (kk, vv) := by
      unfold entK at hkv
      rw [List.getElem?_map] at hkv
      exact Option.map_eq_some_iff.mp hkv
    cases ep
    have hpk : p ∈ ks := List.mem_of_getElem? hp
    have er : Rd H4 d (.dK (entK (fun p => V.int (F p)) ks)) := .inr ⟨od, n4 _ _ e2⟩
    refine ⟨rfl, _, rfl, _, rfl, d, _, rfl, get_entR (f := fun p => V.int (F p)) er hpk, rfl, _, rfl, ?_⟩
    have et : (ks.take (i + 1)).filter (fun p => decide (F p ≠ 0)) = (ks.take i).filter (fun p => decide (F p ≠ 0)) ++ if F p ≠ 0 then [p] else [] := by
      rw [List.take_add_one, hp, List.filter_append]
      congr 1
      by_cases c : F p ≠ 0
      · simp [c]
      · simp [c]
    by_cases c : F p ≠ 0
    · refine if_tr ?_ ?_
      · have : decide (V.int (F p) = V.int 0) = false := decide_eq_false fun z => c (V.int.inj z)
        show (!decide (V.int (F p) = V.int 0)) = true
        rw [this]
        rfl
      refine ⟨_, rfl, _, rfl, _, rfl, d, _, rfl, get_entR (f := fun p => V.int (F p)) er hpk, (by show 2 ≤ sizeLine; decide), fun t ht => ?_⟩
      have htD : t ≠ D := (ne_of_none n1 ht).symm
      refine ⟨_, by rw [upd_ne htD.symm]; exact n1, (by rw [sizeLine_eq]; omega), vs ++ [.ref t], upd_same, by rw [List.length_append]; show vs.length + 1 ≤ _; omega, ?_, fun b o e => ?_⟩
      · rw [et, if_pos c, List.map_append]
        exact dtAll_snoc n3 (fun a z => z.2) ht ⟨n4.free ht, htD⟩ (.tup (xs := [.str (mkS p), .int (F p)]) (by rw [upd_ne htD]; exact upd_same) ⟨n4.free ht, htD⟩ (.cons (.flat (show FlatD (.str (mkS p)) (.str (mkS p)) from rfl)) (.cons (.flat (show FlatD (.int (F p)) (.int (F p)) from rfl)) .nil)))
      · rw [upd_ne (ne_of_none e hD)]
        exact same_new ht _ _ _ (n4 b o e)
    · refine if_fl ?_ ?_
      · have : decide (V.int (F p) = V.int 0) = true := decide_eq_true (congrArg V.int (by omega))
        show (!decide (V.int (F p) = V.int 0)) = false
        rw [this]
        rfl
      refine ⟨vs, n1, by omega, ?_, n4⟩
      rw [et, if_neg c, List.append_nil]
      exact n3
  rintro H3 ⟨vs, n1, n2, n3, n4⟩
  rw [entK_length, List.take_length] at n3
  refine ⟨D, vs, _, F, _, rfl, SqL.of n1, nd.filter _, n3, fun us u hus hu' => ?_⟩
  have hud : u ≠ d := (ne_of_none (n4 _ _ e2) hu').symm
  refine ⟨by rw [upd_ne hud.symm]; exact n4 _ _ e2, ?_⟩
  have eo : asc (ks.filter fun p => decide (F p ≠ 0)) = asc (ks.filter fun p => decide (F p ≠ 0)) := rfl
  have q' := q (ks.filter fun p => decide (F p ≠ 0)) (fun p => by
    rw [List.mem_filter, decide_eq_true_eq]
    rw [show f p - g p + h p = F p from congrFun hF p]
    exact ⟨fun x => x.2, fun x => ⟨Classical.byContradiction fun y => x (nz p y), x⟩⟩) u
  rw [hF] at q'
  refine q' _ (fun b o e => ?_) (.lst (by rw [upd_ne hud]; exact upd_same) trivial ?_)
  · have e3 := s1 _ _ e
    by_cases c : b = d
    · subst c
      exact absurd e (by rw [hd]; intro z; cases z)
    · rw [upd_ne c]
      exact same_new hu' _ _ _ (n4 _ _ (by rw [k2 b c]; exact e3))
  · refine hus.mono (fun a o sa e => ?_) fun _ _ _ _ => trivial
    have : a ≠ d := (ne_of_none e2 sa.1).symm
    rw [upd_ne this]
    exact same_new hu' _ _ _ e
end
end Vf

set_option linter.all false
namespace Vm
/-! ### the pieces of two words, one behind the other -/
theorem wins_left {k : Nat} (x y : Wd) (hk : 1 ≤ k) : wins k (x ++ y) = wins k x ++ wins k (x.drop (x.length + 1 - k) ++ y) := by
  unfold wins
  have hl : (x ++ y).length + 1 - k = (x.length + 1 - k) + ((x.drop (x.length + 1 - k) ++ y).length + 1 - k) := by
    rw [List.length_append, List.length_append, List.length_drop]
    omega
  rw [hl, List.range_add, List.map_append, List.map_map]
  congr 1
  · refine List.map_congr_left fun i hi => ?_
    have hi := List.mem_range.mp hi
    exact win_app (by omega)
  · refine List.map_congr_left fun i hi => ?_
    show win k (x ++ y) (x.length + 1 - k + i) = win k (x.drop (x.length + 1 - k) ++ y) i
    unfold win
    rw [← List.drop_append_of_le_length (by omega : x.length + 1 - k ≤ x.length), List.drop_drop]
theorem wins_right {k : Nat} (a y : Wd) (hk : 1 ≤ k) (ha : a.length ≤ k - 1) : wins k (a ++ y) = wins k (a ++ y.take (k - 1)) ++ wins k y := by
  unfold wins
  have hl : (a ++ y).length + 1 - k = ((a ++ y.take (k - 1)).length + 1 - k) + (y.length + 1 - k) := by
    rw [List.length_append, List.length_append, List.length_take]
    omega
  rw [hl, List.range_add, List.map_append, List.map_map]
  congr 1
  · refine List.map_congr_left fun i hi => ?_
    have hi := List.mem_range.mp hi
    have e : a ++ y = (a ++ y.take (k - 1)) ++ y.drop (k - 1) := by rw [List.append_assoc, List.take_append_drop]
    rw [e]
    exact win_app (by omega)
  · refine List.map_congr_left fun i hi => ?_
    have hi := List.mem_range.mp hi
    have el : (a ++ y.take (k - 1)).length + 1 - k = a.length := by
      rw [List.length_append, List.length_take]
      omega
    show win k (a ++ y) ((a ++ y.take (k - 1)).length + 1 - k + i) = win k y i
    rw [el]
    unfold win
    rw [List.drop_append, List.drop_of_length_le (by omega), List.nil_append]
    congr 2
    omega
theorem wins_join {k : Nat} (x y : Wd) (hk : 1 ≤ k) : wins k (x ++ y) = wins k x ++ (wins k (x.drop (x.length + 1 - k) ++ y.take (k - 1)) ++ wins k y) := by
  rw [wins_left x y hk, wins_right _ y hk (by rw [List.length_drop]; omega)]
theorem often_join {k : Nat} (x y p : Wd) (hk : 1 ≤ k) : often k (x ++ y) p = often k x p + (often k (x.drop (x.length + 1 - k) ++ y.take (k - 1)) p + often k y p) := by
  unfold often
  rw [wins_join x y hk, List.count_append, List.count_append]
theorem first_join {k : Nat} (x y : Wd) : (x.take (k - 1) ++ y.take (k - 1)).take (k - 1) = (x ++ y).take (k - 1) := by
  rw [List.take_append, List.take_append, List.take_take, List.length_take, Nat.min_self]
  by_cases h : x.length ≤ k - 1
  · rw [Nat.min_eq_right h, List.take_take, Nat.min_eq_left (by omega : k - 1 - x.length ≤ k - 1)]
  · have h1 : k - 1 - min (k - 1) x.length = 0 := by omega
    have h2 : k - 1 - x.length = 0 := by omega
    rw [h1, h2, List.take_zero, List.take_zero]
theorem last_join {k : Nat} (x y : Wd) (hk : 1 ≤ k) :
    (x.drop (x.length + 1 - k) ++ y.drop (y.length + 1 - k)).drop ((x.drop (x.length + 1 - k) ++ y.drop (y.length + 1 - k)).length + 1 - k) = (x ++ y).drop ((x ++ y).length + 1 - k) := by
  rw [List.drop_append, List.drop_append, List.drop_drop, List.drop_drop]
  simp only [List.length_append, List.length_drop]
  congr 1
  · by_cases h : k ≤ y.length + 1
    · rw [List.drop_of_length_le (by omega), List.drop_of_length_le (by omega)]
    · congr 1
      omega
  · congr 1
    omega
end Vm

set_option Elab.async false
set_option linter.all false
set_option maxRecDepth 100000
set_option maxHeartbeats 4000000
namespace Vf
open PySem PySem.Spec PyProof.Rows L2 L2.Vx Vs Vm
abbrev sParts : Stmt := top 17
abbrev sJoined : Stmt := top 18
/-! ### views joined -/
/-- how many pieces a word has, each once -/
def kinds (k : Nat) (z : Wd) : Nat := (asc (wins k z)).length
theorem tabT_kinds (k t : Nat) (z : Wd) : (tabT t (tab k z)).length = kinds k z := by
  unfold tabT kinds
  rw [List.length_map, tab_keys, asc_asc]
def spParts : Sp := fun vs H Q _ => ∃ (k t : Nat) (v : V) (z : Wd) (S : Addr → Prop), vs = [v] ∧ 1 ≤ k ∧ Dt H S v (viewD k t z) ∧
  ∀ (p : Addr) (u : V) (H' : Hp), Same H H' → H' p = some (.tup [.str (mkS (z.take (k - 1))), .str (mkS (z.drop (z.length + 1 - k))), u]) → Dt H' (fun _ => True) u (tabD (tabT t (tab k z))) → Q (.ref p) H'
def spJoined : Sp := fun vs H Q _ => ∃ (k t : Nat) (v u : V) (x y : Wd) (S S' : Addr → Prop), vs = [.int k, .int t, v, u] ∧ 1 ≤ k ∧ k ≤ 1000 ∧ 1 ≤ t ∧ kinds k x ≤ 1000 ∧ kinds k y ≤ 1000 ∧ Dt H S v (viewD k t x) ∧ Dt H S' u (viewD k t y) ∧
  ∀ r H', Same H H' → Dt H' (New H) r (viewD k t (x ++ y)) → Q r H'
theorem view_join {k t : Nat} {x y : Wd} (hk : 1 ≤ k) (h : ¬ (x.length < k ∧ y.length < k)) :
    viewD k t (x ++ y) = .tuple [.str "long", .str (mkS ((x.take (k - 1) ++ y.take (k - 1)).take (k - 1))),
      .str (mkS ((x.drop (x.length + 1 - k) ++ y.drop (y.length + 1 - k)).drop ((x.drop (x.length + 1 - k) ++ y.drop (y.length + 1 - k)).length + 1 - k))),
      sumD t ([tabT t (tab k x), tab k (x.drop (x.length + 1 - k) ++ y.take (k - 1)), tabT t (tab k y)].flatten)] := by
  rw [view_long (by rw [List.length_append]; omega), first_join, last_join x y hk]
  congr 5
  refine sum_ext (fun p => ?_) fun p => ?_
  · rw [tab_keys, mem_asc, wins_join x y hk, List.flatten_cons, List.flatten_cons, List.map_append, List.map_append, tabT_keys, tab_keys, tab_keys]
    simp only [List.mem_append, mem_asc, List.flatten_cons, List.flatten_nil, List.append_nil, tabT_keys, tab_keys]
  · rw [tally_tab, often_join x y p hk, List.flatten_cons, List.flatten_cons, tally_app, tally_app, tally_tabT, tally_tab, tally_tab, List.flatten_cons, List.flatten_nil, List.append_nil, tally_tabT, tally_tab]
    omega
section
variable {P : Program} {w : World} {K : PySem.W.Frag} {mg : Str → Option Value} {base : Heap}
theorem scParts : FnScope ["view"] ["view"] (defScope sParts) := ⟨rfl, rfl, rfl, by decide +kernel, rfl, by decide +kernel, by decide +kernel⟩
abbrev nJoined : List Str := ["width", "top", "view", "other", "first", "last", "pairs", "other_first", "other_last", "other_pairs", "between", "ended"]
theorem scJoined : FnScope nJoined ["width", "top", "view", "other"] (defScope sJoined) := ⟨rfl, rfl, rfl, by decide +kernel, rfl, by decide +kernel, by decide +kernel⟩
theorem at0 {m : V} {xs : List V} : atI (m :: xs) 0 = some m := atI_nat (j := 0) rfl
theorem tab_short {k : Nat} {z : Wd} (h : z.length < k) : tab k z = [] := by
  unfold tab wins
  rw [show z.length + 1 - k = 0 by omega]
  rfl
theorem ok_parts {f : Addr} {fd : FuncData} (F : Fun K "parts_of" "parts_of" sParts f fd) : FnOk P w K mg base CX0 1 f fd ["view"] spParts := by
  refine F.ok scParts (fun vs H Q E h => ?_) (fun cdv A outer s H vs Q E hr h => ?_)
  · obtain ⟨k, t, v, z, S, rfl, _⟩ := h
    rfl
  obtain ⟨k, t, v, z, S, rfl, hk, hv, q⟩ := h
  refine ⟨_, pss_cons (ps_if (pt_cmpR op_eq (pe_ix ix_tup (pv 0) pe_int (fun _ _ => rfl)) pe_str (nomark _))
      (pss_one (ps_ret (pe_tup (pa_cons (pe_ix ix_tup (pv 0) pe_int (fun _ _ => rfl)) (pa_cons (pe_ix ix_tup (pv 0) pe_int (fun _ _ => rfl)) (pa_cons (pe_tup pa_nil) pa_nil)))))) pss_nil)
    (pss_one (ps_ret (pe_slice sl_tup (pv 0) (po_some pe_int) po_none))), ?_⟩
  by_cases c' : z.length < k
  · rw [view_short c'] at hv
    obtain ⟨a, xs, rfl, ha, _, hxs⟩ := dt_tup hv
    obtain ⟨v1, r1, rfl, h1, hxs⟩ := dtA_one hxs
    obtain ⟨v2, r2, rfl, h2, hxs⟩ := dtA_one hxs
    obtain rfl := dtA_nil hxs
    obtain rfl := dt_str h1
    obtain rfl := dt_str h2
    refine ⟨_, rfl, a, _, _, .str "short", rfl, rfl, SqT.of ha, rfl, rfl, _, rfl, ?_⟩
    refine ite2 (fun _ => ?_) (fun x => absurd (decide_eq_true rfl) x)
    refine ⟨_, rfl, a, _, _, .str (mkS z), rfl, rfl, SqT.of ha, rfl, _, rfl, a, _, _, .str (mkS z), rfl, rfl, SqT.of ha, rfl, Nat.zero_le _, fun e he => ⟨(by show 3 ≤ sizeLine; decide), fun p hp => ?_⟩⟩
    have s1 := same_new he (.tup [])
    have s2 := same_new hp (.tup [.str (mkS z), .str (mkS z), .ref e])
    refine q p (.ref e) _ (s1.trans s2) ?_ ?_
    · rw [upd_same, List.take_of_length_le (by omega), show z.length + 1 - k = 0 by omega, List.drop_zero]
    · rw [tab_short c']
      exact .tup (xs := []) (s2 _ _ upd_same) trivial .nil
  · rw [view_long c', sum_tab] at hv
    obtain ⟨a, xs, rfl, ha, _, hxs⟩ := dt_tup hv
    obtain ⟨v1, r1, rfl, h1, hxs⟩ := dtA_one hxs
    obtain ⟨v2, r2, rfl, h2, hxs⟩ := dtA_one hxs
    obtain ⟨v3, r3, rfl, h3, hxs⟩ := dtA_one hxs
    obtain ⟨v4, r4, rfl, h4, hxs⟩ := dtA_one hxs
    obtain rfl := dtA_nil hxs
    obtain rfl := dt_str h1
    obtain rfl := dt_str h2
    obtain rfl := dt_str h3
    refine ⟨_, rfl, a, _, _, .str "long", rfl, rfl, SqT.of ha, rfl, rfl, _, rfl, ?_⟩
    refine ite2 (fun x => absurd x (by rw [short_ne_long]; decide)) (fun _ => ?_)
    have ec : cutV [V.str "long", V.str (mkS (z.take (k - 1))), V.str (mkS (z.drop (z.length + 1 - k))), v4] (some 1) none = [V.str (mkS (z.take (k - 1))), V.str (mkS (z.drop (z.length + 1 - k))), v4] := rfl
    refine ⟨_, rfl, _, rfl, a, _, rfl, SqT.of ha, (fun z => absurd z.1 (show ¬ HT.sIx 4 0 (some 1) = 0 by decide)), fun p hp => ?_⟩
    rw [ec]
    have s1 := same_new hp (.tup [V.str (mkS (z.take (k - 1))), V.str (mkS (z.drop (z.length + 1 - k))), v4])
    exact q p v4 _ s1 upd_same (h4.mono (fun a o _ e => s1 _ _ e) fun _ _ _ _ => trivial)
theorem ok_joined {f fV fT fC fE fS : Addr} {fd fdV fdT fdC fdE fdS : FuncData} (F : Fun K "joined" "joined" sJoined f fd)
    (GV : FnOk P w K mg base CX0 3 fV fdV ["width", "top", "text"] spView) (bV : Binds K fdV ["width", "top", "text"] []) (kV : PySem.W.keepIn K (.ref fV) = true) (mV : mg "view_of" = some (.ref fV))
    (GT : FnOk P w K mg base CX0 1 fT fdT ["view"] spParts) (bT : Binds K fdT ["view"] []) (kT : PySem.W.keepIn K (.ref fT) = true) (mT : mg "parts_of" = some (.ref fT))
    (GC : FnOk P w K mg base CX0 2 fC fdC ["width", "text"] (spPieces K)) (bC : Binds K fdC ["width", "text"] []) (kC : PySem.W.keepIn K (.ref fC) = true) (mC : mg "pieces_of" = some (.ref fC))
    (GE : FnOk P w K mg base CX0 1 fE fdE ["width", "text"] spEnded) (bE : Binds K fdE ["width", "text"] []) (kE : PySem.W.keepIn K (.ref fE) = true) (mE : mg "ended_with" = some (.ref fE))
    (GS : FnOk P w K mg base CX0 2 fS fdS ["tables", "top"] spSummed) (bS : Binds K fdS ["tables", "top"] []) (kS' : PySem.W.keepIn K (.ref fS) = true) (mS : mg "summed" = some (.ref fS)) :
    FnOk P w K mg base CX0 4 f fd ["width", "top", "view", "other"] spJoined := by
  refine F.ok scJoined (fun vs H Q E h => ?_) (fun cdv A outer s H vs Q E hr h => ?_)
  · obtain ⟨k, t, v, u, x, y, S, S', rfl, _⟩ := h
    rfl
  obtain ⟨k, t, v, u, x, y, S, S', rfl, hk1, hk2, ht, hx, hy, hv, hu, q⟩ := h
  have hr1 : Room 1 _ := hr.mono (by decide)
  have hr2 : Room 2 _ := hr.mono (by decide)
  refine ⟨_, C8.pss_cut (ps_if (PW.pt (pw_and (pt_cmpR op_eq (pe_ix ix_tup (pv 2) pe_int (fun _ _ => rfl)) pe_str (nomark _)) (pw_and1 (pt_cmpR op_eq (pe_ix ix_tup (pv 3) pe_int (fun _ _ => rfl)) pe_str (nomark _)))))
      (pss_one (ps_ret (pe_call GV hr rfl mV kV bV .nil pass0 (pa_cons (pv 0) (pa_cons (pv 1) (pa_cons (pe_op op_add_str (pe_ix ix_tup (pv 2) pe_int (fun _ _ => rfl)) (pe_ix ix_tup (pv 3) pe_int (fun _ _ => rfl))) pa_nil)))))) pss_nil)
    (pss_cons (ps_asg (pe_call GT hr1 rfl mT kT bT .nil pass0 (pa_cons (pv 2) pa_nil)) (pg_tup rfl (pgs_cons (pg_name (i := 4) scJoined.nd rfl (Or.inl rfl)) (pgs_cons (pg_name (i := 5) scJoined.nd rfl (Or.inl rfl)) (pgs_cons (pg_name (i := 6) scJoined.nd rfl (Or.inl rfl)) pgs_nil)))))
    (pss_cons (ps_asg (pe_call GT hr1 rfl mT kT bT .nil pass0 (pa_cons (pv 3) pa_nil)) (pg_tup rfl (pgs_cons (pg_name (i := 7) scJoined.nd rfl (Or.inl rfl)) (pgs_cons (pg_name (i := 8) scJoined.nd rfl (Or.inl rfl)) (pgs_cons (pg_name (i := 9) scJoined.nd rfl (Or.inl rfl)) pgs_nil)))))
    (pss_cons (ps_set (i := 10) scJoined.nd rfl (Or.inl rfl) (pe_call GC hr2 rfl mC kC bC .nil pass0 (pa_cons (pv 0) (pa_cons (pe_op op_add_str (pv 5) (pv 7)) pa_nil))))
    (pss_cons (ps_set (i := 11) scJoined.nd rfl (Or.inl rfl) (pe_call GE hr1 rfl mE kE bE .nil pass0 (pa_cons (pv 0) (pa_cons (pe_op op_add_str (pv 5) (pv 8)) pa_nil))))
    (pss_one (ps_ret (pe_tup (pa_cons pe_str (pa_cons (pe_slice sl_str (pe_op op_add_str (pv 4) (pv 7)) po_none (po_some (pe_op op_sub (pv 0) pe_int))) (pa_cons (pv 11)
      (pa_cons (pe_call GS hr2 rfl mS kS' bS .nil pass0 (pa_cons (pe_lst (pa_cons (pv 6) (pa_cons (pv 10) (pa_cons (pv 9) pa_nil)))) (pa_cons (pv 1) pa_nil))) pa_nil))))))))))), ?_⟩
  -- what stands at the head of a view
  have head : ∀ (zz : Wd) (vv : V) (SS : Addr → Prop), Dt H SS vv (viewD k t zz) → ∃ a xs m, vv = .ref a ∧ H a = some (.tup (m :: xs)) ∧ (m = if zz.length < k then V.str "short" else V.str "long") := by
    intro zz vv SS h
    by_cases c : zz.length < k
    · rw [view_short c] at h
      obtain ⟨a, xs, rfl, ha, _, hxs⟩ := dt_tup h
      obtain ⟨v1, r1, rfl, h1, hxs⟩ := dtA_one hxs
      obtain rfl := dt_str h1
      exact ⟨a, _, _, rfl, ha, (if_pos c).symm⟩
    · rw [view_long c] at h
      obtain ⟨a, xs, rfl, ha, _, hxs⟩ := dt_tup h
      obtain ⟨v1, r1, rfl, h1, hxs⟩ := dtA_one hxs
      obtain rfl := dt_str h1
      exact ⟨a, _, _, rfl, ha, (if_neg c).symm⟩
  obtain ⟨a, xs, m, rfl, ha, em⟩ := head x v S hv
  obtain ⟨b, ys, n, rfl, hb, en⟩ := head y u S' hu
  refine ⟨fun σ H' => σ = [some (.int k), some (.int t), some (.ref a), some (.ref b), none, none, none, none, none, none, none, none] ∧ H' = H ∧ ¬ (x.length < k ∧ y.length < k), ?_, ?_⟩
  · by_cases cx : x.length < k
    · rw [if_pos cx] at em
      subst em
      refine ⟨_, rfl, a, _, _, .str "short", rfl, rfl, SqT.of ha, at0, rfl, _, rfl, ?_⟩
      refine ite2 (fun _ => ?_) (fun x => absurd (decide_eq_true rfl) x)
      by_cases cy : y.length < k
      · rw [if_pos cy] at en
        subst en
        refine ⟨_, rfl, b, _, _, .str "short", rfl, rfl, SqT.of hb, at0, rfl, _, rfl, ?_⟩
        refine ite2 (fun _ => ?_) (fun x => absurd (decide_eq_true rfl) x)
        rw [view_short cx] at hv
        obtain ⟨a', xs', e, ha', _, hxs⟩ := dt_tup hv
        cases e
        obtain ⟨v1, r1, rfl, h1, hxs⟩ := dtA_one hxs
        obtain ⟨v2, r2, rfl, h2, hxs⟩ := dtA_one hxs
        obtain rfl := dtA_nil hxs
        obtain rfl := dt_str h2
        rw [view_short cy] at hu
        obtain ⟨b', ys', e, hb', _, hys⟩ := dt_tup hu
        cases e
        obtain ⟨w1, r3, rfl, g1, hys⟩ := dtA_one hys
        obtain ⟨w2, r4, rfl, g2, hys⟩ := dtA_one hys
        obtain rfl := dtA_nil hys
        obtain rfl := dt_str g2
        have add : (mkS x).length + (mkS y).length ≤ sizeLine := by rw [mkS_length, mkS_length, sizeLine_eq]; omega
        refine ⟨_, rfl, _, rfl, _, rfl, a, _, _, .str (mkS x), rfl, rfl, SqT.of ha', rfl, _, rfl, b, _, _, .str (mkS y), rfl, rfl, SqT.of hb', rfl, _, _, rfl, rfl, add, ?_⟩
        rw [mkS_append]
        exact ⟨k, t, x ++ y, rfl, hk1, hk2, ht, by rw [List.length_append]; omega, q⟩
      · rw [if_neg cy] at en
        subst en
        refine ⟨_, rfl, b, _, _, .str "long", rfl, rfl, SqT.of hb, at0, rfl, _, rfl, ?_⟩
        refine ite2 (fun x => absurd x (by rw [short_ne_long]; decide)) (fun _ => ?_)
        exact ⟨rfl, rfl, fun z => cy z.2⟩
    · rw [if_neg cx] at em
      subst em
      refine ⟨_, rfl, a, _, _, .str "long", rfl, rfl, SqT.of ha, at0, rfl, _, rfl, ?_⟩
      refine ite2 (fun x => absurd x (by rw [short_ne_long]; decide)) (fun _ => ?_)
      exact ⟨rfl, rfl, fun z => cx z.1⟩
  · rintro σ H0 ⟨rfl, rfl, nn⟩
    have s0 := Same.refl H0
    refine ⟨_, rfl, k, t, _, x, S, rfl, hk1, dt_same hv s0, fun p1 u1 H1 s1 e1 d1 => ?_⟩
    refine ⟨p1, _, rfl, SqT.of e1, rfl, _, _, rfl, _, _, rfl, _, _, rfl, rfl, ?_⟩
    refine ⟨_, rfl, k, t, _, y, S', rfl, hk1, dt_same (dt_same hu s0) s1, fun p2 u2 H2 s2 e2 d2 => ?_⟩
    refine ⟨p2, _, rfl, SqT.of e2, rfl, _, _, rfl, _, _, rfl, _, _, rfl, rfl, ?_⟩
    have qq := view_join (t := t) hk1 nn
    have lx : (x.drop (x.length + 1 - k)).length ≤ k - 1 := by rw [List.length_drop]; omega
    have ly : (y.drop (y.length + 1 - k)).length ≤ k - 1 := by rw [List.length_drop]; omega
    have fx : (x.take (k - 1)).length ≤ k - 1 := by rw [List.length_take]; omega
    have fy : (y.take (k - 1)).length ≤ k - 1 := by rw [List.length_take]; omega
    have full : k ≤ (x.drop (x.length + 1 - k) ++ y.drop (y.length + 1 - k)).length + 1 := by
      rw [List.length_append, List.length_drop, List.length_drop]
      omega
    generalize x.take (k - 1) = xf at qq fx ⊢
    generalize x.drop (x.length + 1 - k) = xl at qq lx full ⊢
    generalize y.take (k - 1) = yf at qq fy ⊢
    generalize y.drop (y.length + 1 - k) = yl at qq ly full ⊢
    have add : ∀ a b : Wd, a.length ≤ k - 1 → b.length ≤ k - 1 → (mkS a).length + (mkS b).length ≤ sizeLine := fun a b h1 h2 => by rw [mkS_length, mkS_length, sizeLine_eq]; omega
    refine ⟨_, rfl, _, rfl, _, rfl, _, _, rfl, rfl, add xl yf lx fy, ?_⟩
    rw [mkS_append]
    refine ⟨k, xl ++ yf, rfl, hk1, by omega, by rw [List.length_append]; omega, fun v3 H3 s3 d3 => ?_⟩
    refine ⟨_, rfl, _, rfl, _, rfl, _, _, rfl, rfl, add xl yl lx ly, ?_⟩
    rw [mkS_append]
    refine ⟨k, xl ++ yl, rfl, hk1, full, by rw [List.length_append]; omega, ?_⟩
    refine ⟨_, rfl, _, rfl, _, _, rfl, rfl, add xf yf fx fy, ?_⟩
    rw [mkS_append]
    have h16 : (mkS (xf ++ yf)).length ≤ sizeLine := by rw [mkS_length, List.length_append, sizeLine_eq]; omega
    refine ⟨_, rfl, _, _, rfl, rfl, _, rfl, _, rfl, h16, ?_⟩
    have e1' : (k : Int) - 1 = ((k - 1 : Nat) : Int) := by omega
    rw [e1', cut_head]
    refine ⟨_, rfl, _, rfl, _, rfl, _, rfl, (by show 3 ≤ sizeLine; decide), fun l hl => ?_⟩
    rw [pairs_tab] at d3
    have s4 := same_new hl (.lst [u1, v3, u2])
    have s23 := s2.trans s3
    have s14 := ((s0.trans s1).trans s23).trans s4
    have el : upd H3 l (.lst [u1, v3, u2]) l = some (.lst [u1, v3, u2]) := upd_same
    have dl : DtAll (upd H3 l (.lst [u1, v3, u2])) (fun _ => True) [u1, v3, u2] ([tabT t (tab k x), tab k (xl ++ yf), tabT t (tab k y)].map tabD) :=
      .cons (dt_same d1 (s23.trans s4)) (.cons (d3.mono (fun a o _ e => s4 _ _ e) fun _ _ _ _ => trivial) (.cons (dt_same d2 (s3.trans s4)) .nil))
    generalize upd H3 l (.lst [u1, v3, u2]) = H4 at s14 el dl ⊢
    have tl := tab_length k (xl ++ yf)
    rw [List.length_append] at tl
    refine ⟨_, rfl, l, t, _, _, _, rfl, ht, el, dl, ?_, fun u5 H5 s5 d5 => ⟨(by show 4 ≤ sizeLine; decide), fun r hr' => ?_⟩⟩
    · rw [List.flatten_cons, List.flatten_cons, List.flatten_cons, List.flatten_nil, List.length_append, List.length_append, List.length_append, List.length_nil, tabT_kinds, tabT_kinds]
      omega
    have s6 := same_new hr' (.tup [.str "long", .str (mkS ((xf ++ yf).take (k - 1))), .str (mkS ((xl ++ yl).drop ((xl ++ yl).length + 1 - k))), u5])
    have s16 := s14.trans s5
    refine q _ _ (s16.trans s6) ?_
    rw [qq]
    exact .tup upd_same (s16.free hr') (.cons (.flat (show FlatD (.str "long") (.str "long") from rfl)) (.cons (.flat (show FlatD (.str (mkS ((xf ++ yf).take (k - 1)))) (.str (mkS ((xf ++ yf).take (k - 1)))) from rfl)) (.cons (.flat (show FlatD (.str (mkS ((xl ++ yl).drop ((xl ++ yl).length + 1 - k)))) (.str (mkS ((xl ++ yl).drop ((xl ++ yl).length + 1 - k)))) from rfl))
      (.cons (dt_same (dt_new d5 s14) s6) .nil))))
end
end Vf

set_option Elab.async false
set_option linter.all false
set_option maxRecDepth 100000
set_option maxHeartbeats 4000000
namespace Vm
open PySem PySem.Spec PyProof.Rows L2 L2.Vx
/-! ### data of texts, ints, lists and tuples: what is equal, what is shown -/
section
mutual
def plainD : PyData → Bool
  | .int _ => true
  | .str x => x.cps.toList.all fun c => decide (c < 1000)
  | .list xs => plainDs xs
  | .tuple xs => plainDs xs
  | _ => false
def plainDs : List PyData → Bool
  | [] => true
  | x :: xs => plainD x && plainDs xs
end
mutual
theorem eqv_plain : ∀ (d e : PyData), plainD d = true → plainD e = true → PyData.eqv d e = true → d = e
  | .int i, .int j, _, _, h => by
    simp only [PyData.eqv, beq_iff_eq] at h
    rw [h]
  | .int _, .str _, _, _, h => by simp [PyData.eqv] at h
  | .int _, .list _, _, _, h => by simp [PyData.eqv] at h
  | .int _, .tuple _, _, _, h => by simp [PyData.eqv] at h
  | .str x, .str y, _, _, h => by
    simp only [PyData.eqv, beq_iff_eq] at h
    rw [h]
  | .str _, .int _, _, _, h => by simp [PyData.eqv] at h
  | .str _, .list _, _, _, h => by simp [PyData.eqv] at h
  | .str _, .tuple _, _, _, h => by simp [PyData.eqv] at h
  | .list xs, .list ys, h1, h2, h => by
    simp only [PyData.eqv] at h
    simp only [plainD] at h1 h2
    rw [eqv_plainAll xs ys h1 h2 h]
  | .list _, .int _, _, _, h => by simp [PyData.eqv] at h
  | .list _, .str _, _, _, h => by simp [PyData.eqv] at h
  | .list _, .tuple _, _, _, h => by simp [PyData.eqv] at h
  | .tuple xs, .tuple ys, h1, h2, h => by
    simp only [PyData.eqv] at h
    simp only [plainD] at h1 h2
    rw [eqv_plainAll xs ys h1 h2 h]
  | .tuple _, .int _, _, _, h => by simp [PyData.eqv] at h
  | .tuple _, .str _, _, _, h => by simp [PyData.eqv] at h
  | .tuple _, .list _, _, _, h => by simp [PyData.eqv] at h
  | .none, _, h, _, _ => by simp [plainD] at h
  | .bool _, _, h, _, _ => by simp [plainD] at h
  | .dict _, _, h, _, _ => by simp [plainD] at h
  | .int _, .none, _, h, _ => by simp [plainD] at h
  | .int _, .bool _, _, h, _ => by simp [plainD] at h
  | .int _, .dict _, _, h, _ => by simp [plainD] at h
  | .str _, .none, _, h, _ => by simp [plainD] at h
  | .str _, .bool _, _, h, _ => by simp [plainD] at h
  | .str _, .dict _, _, h, _ => by simp [plainD] at h
  | .list _, .none, _, h, _ => by simp [plainD] at h
  | .list _, .bool _, _, h, _ => by simp [plainD] at h
  | .list _, .dict _, _, h, _ => by simp [plainD] at h
  | .tuple _, .none, _, h, _ => by simp [plainD] at h
  | .tuple _, .bool _, _, h, _ => by simp [plainD] at h
  | .tuple _, .dict _, _, h, _ => by simp [plainD] at h
theorem eqv_plainAll : ∀ (xs ys : List PyData), plainDs xs = true → plainDs ys = true → PyData.eqvAll xs ys = true → xs = ys
  | [], [], _, _, _ => rfl
  | [], _ :: _, _, _, h => by simp [PyData.eqvAll] at h
  | _ :: _, [], _, _, h => by simp [PyData.eqvAll] at h
  | x :: xs, y :: ys, h1, h2, h => by
    simp only [plainDs, Bool.and_eq_true] at h1 h2
    simp only [PyData.eqvAll, Bool.and_eq_true] at h
    rw [eqv_plain x y h1.1 h2.1 h.1, eqv_plainAll xs ys h1.2 h2.2 h.2]
end
mutual
theorem lay_plain : ∀ d : PyData, plainD d = true → d.canLay0 = true
  | .int _, _ => by simp [PyData.canLay0]
  | .str x, h => by
    simp only [plainD, List.all_eq_true, decide_eq_true_iff] at h
    simp only [PyData.canLay0, PyData.strOk]
    rw [← Array.all_toList, List.all_eq_true]
    exact fun c hc => decide_eq_true (Nat.lt_trans (h c hc) (by decide))
  | .list xs, h => by
    simp only [plainD] at h
    simp only [PyData.canLay0]
    exact lay_plainAll xs h
  | .tuple xs, h => by
    simp only [plainD] at h
    simp only [PyData.canLay0]
    exact lay_plainAll xs h
  | .none, h => by simp [plainD] at h
  | .bool _, h => by simp [plainD] at h
  | .dict _, h => by simp [plainD] at h
theorem lay_plainAll : ∀ xs : List PyData, plainDs xs = true → PyData.canLayAll0 xs = true
  | [], _ => by simp [PyData.canLayAll0]
  | x :: xs, h => by
    simp only [plainDs, Bool.and_eq_true] at h
    simp only [PyData.canLayAll0, lay_plain x h.1, lay_plainAll xs h.2, Bool.and_self]
end
mutual
theorem dt_dp {K : PySem.W.Frag} {H : Hp} {S : Addr → Prop} : ∀ {v : V} {d : PyData}, Dt H S v d → plainD d = true → Dp K H v d
  | v, d, .flat e, h => by
    cases v with
    | int i => cases (show d = .int i from e); exact .int i
    | str x => cases (show d = .str x from e); exact .str x
    | non => cases (show d = .none from e); simp [plainD] at h
    | bl b => cases (show d = .bool b from e); simp [plainD] at h
    | _ => exact (show False from e).elim
  | _, _, .lst e _ r, h => by
    simp only [plainD] at h
    exact .lst (SqL.of e) (dtA_dp r h)
  | _, _, .tup e _ r, h => by
    simp only [plainD] at h
    exact .tup (SqT.of e) (dtA_dp r h)
  | _, _, .dct e _ r, h => by simp [plainD] at h
theorem dtA_dp {K : PySem.W.Frag} {H : Hp} {S : Addr → Prop} : ∀ {vs : List V} {ds : List PyData}, DtAll H S vs ds → plainDs ds = true → DpAll K H vs ds
  | _, _, .nil, _ => .nil
  | _, _, .cons a b, h => by
    simp only [plainDs, Bool.and_eq_true] at h
    exact .cons (dt_dp a h.1) (dtA_dp b h.2)
end
end
theorem plain_mkS {z : Wd} (h : ∀ c ∈ z, c < 1000) : plainD (.str (mkS z)) = true := by
  simp only [plainD, mkS_cps, List.all_eq_true, decide_eq_true_iff]
  exact h
theorem plainAll_of : ∀ {ds : List PyData}, (∀ d ∈ ds, plainD d = true) → plainDs ds = true
  | [], _ => by simp [plainDs]
  | x :: r, h => by
    simp only [plainDs, h x (List.mem_cons_self ..), plainAll_of fun d hd => h d (List.mem_cons_of_mem _ hd), Bool.and_self]
/-- bounds that are added up -/
inductive Fits (e : Nat) : Nat → Nat → List PyData → Prop
  | nil : Fits e 0 0 []
  | cons {b s n : Nat} {x : PyData} {ds : List PyData} : Fit b e x → Fits e s n ds → Fits e (b + s) (n + 1) (x :: ds)
theorem Fits.all {e s n : Nat} {ds : List PyData} (h : Fits e s n ds) : PyData.showableAll ds = true ∧ ((PyData.shownAll ds).map (·.length)).sum ≤ s ∧ (PyData.shownAll ds).length = n ∧ PyData.depthAll ds ≤ e := by
  induction h with
  | nil => exact ⟨by simp [PyData.showableAll], by simp [PyData.shownAll], by simp [PyData.shownAll], by simp [PyData.depthAll]⟩
  | cons hx _ ih =>
    obtain ⟨i1, i2, i3, i4⟩ := ih
    have h2 := hx.len
    have h3 := hx.dep
    refine ⟨by simp only [PyData.showableAll, hx.sh, i1, Bool.and_self], ?_, ?_, ?_⟩
    · simp only [PyData.shownAll, List.map_cons, List.sum_cons]
      omega
    · simp only [PyData.shownAll, List.length_cons, i3]
    · simp only [PyData.depthAll]
      exact Nat.max_le.mpr ⟨h3, i4⟩
theorem Fits.tup {e s n : Nat} {ds : List PyData} (h : Fits e s n ds) : Fit (s + 2 * n + 3) (e + 1) (.tuple ds) := by
  obtain ⟨i1, i2, i3, i4⟩ := h.all
  refine ⟨by simpa only [PyData.showable] using i1, ?_, by simp only [PyData.depth]; omega⟩
  simp only [PyData.shown]
  refine Nat.le_trans (tupleText_len_le _) ?_
  rw [i3]
  omega
theorem Fits.lst {e s n : Nat} {ds : List PyData} (h : Fits e s n ds) : Fit (s + 2 * n + 3) (e + 1) (.list ds) := by
  obtain ⟨i1, i2, i3, i4⟩ := h.all
  refine ⟨by simpa only [PyData.showable] using i1, ?_, by simp only [PyData.depth]; omega⟩
  simp only [PyData.shown]
  refine Nat.le_trans (listText_len_le _) ?_
  rw [i3]
  omega
end Vm
namespace Vf
open PySem PySem.Spec PyProof.Rows L2 L2.Vx Vs Vm
/-! ### views as data -/
theorem tab_plain {k : Nat} {z : Wd} {t : Nat} (hc : ∀ c ∈ z, c < 1000) : plainD (sumD t (tab k z)) = true := by
  rw [cnt_eq]
  unfold pairsD
  simp only [plainD]
  refine plainAll_of fun d hd => ?_
  obtain ⟨p, hp, rfl⟩ := List.mem_map.mp hd
  have h1 := plain_mkS (z := p) fun c h => hc c (wins_mem (mem_asc.mp hp) c h)
  simp only [Vm.pairD, plainD, plainDs, Bool.and_true]
  simpa only [plainD] using h1
theorem view_plain {k t : Nat} {z : Wd} (hc : ∀ c ∈ z, c < 1000) : plainD (viewD k t z) = true := by
  have lit : plainD (.str "short") = true ∧ plainD (.str "long") = true := by
    constructor
    · simp only [plainD]; decide +kernel
    · simp only [plainD]; decide +kernel
  by_cases c : z.length < k
  · rw [view_short c]
    simp only [plainD, plainDs, Bool.and_true, Bool.and_eq_true]
    exact ⟨by simpa only [plainD] using lit.1, by simpa only [plainD] using plain_mkS hc⟩
  · rw [view_long c]
    have h1 := plain_mkS (z := z.take (k - 1)) fun c h => hc c (List.mem_of_mem_take h)
    have h2 := plain_mkS (z := z.drop (z.length + 1 - k)) fun c h => hc c (List.mem_of_mem_drop h)
    have h3 := tab_plain (k := k) (t := t) hc
    have h4 : plainD (.tuple [.str "long", .str (mkS (z.take (k - 1))), .str (mkS (z.drop (z.length + 1 - k))), sumD t (tab k z)]) = (plainD (.str "long") && (plainD (.str (mkS (z.take (k - 1)))) && (plainD (.str (mkS (z.drop (z.length + 1 - k)))) && (plainD (sumD t (tab k z)) && true)))) := by
      conv => lhs; unfold plainD
      simp only [plainDs]
    rw [h4, lit.2, h1, h2, h3]
    rfl
theorem view_fit {k t n : Nat} {z : Wd} (hc : ∀ c ∈ z, c < 1000) (hk : k ≤ 8) (hz : z.length ≤ n) (hn : n ≤ 100000) : Fit (n * 101 + 400) 3 (viewD k t z) := by
  have s1 : Fit 50 2 (.str "short") := ⟨rfl, (by decide +kernel : (PyData.shown (.str "short")).length ≤ 50), by simp [PyData.depth]⟩
  have s2 : Fit 50 2 (.str "long") := ⟨rfl, (by decide +kernel : (PyData.shown (.str "long")).length ≤ 50), by simp [PyData.depth]⟩
  by_cases c : z.length < k
  · rw [view_short c]
    refine ((Fits.cons s1 (.cons ((fit_str (n := 8) hc (by omega)).le (Nat.le_refl _) (by decide)) .nil)).tup).le (by omega) (Nat.le_refl _)
  · rw [view_long c]
    have f1 : Fit 82 2 (.str (mkS (z.take (k - 1)))) := (fit_str (n := 8) (fun c h => hc c (List.mem_of_mem_take h)) (by rw [List.length_take]; omega)).le (Nat.le_refl _) (by decide)
    have f2 : Fit 82 2 (.str (mkS (z.drop (z.length + 1 - k)))) := (fit_str (n := 8) (fun c h => hc c (List.mem_of_mem_drop h)) (by rw [List.length_drop]; omega)).le (Nat.le_refl _) (by decide)
    have f3 : Fit ((n + 1) * 101 + 3) 2 (sumD t (tab k z)) := by
      rw [cnt_eq]
      have la := asc_length_le (wins k z)
      rw [wins_length] at la
      refine (fit_tup (b := 99) (e := 1) fun x hx => ?_).le ?_ (Nat.le_refl _)
      · obtain ⟨p, hp, rfl⟩ := List.mem_map.mp hx
        have hw := mem_asc.mp hp
        have h2 := often_le k z p
        exact ((Fits.cons (fit_str (n := 8) (fun c h => hc c (wins_mem hw c h)) (by rw [wins_len hw]; exact hk)) (.cons (fit_int (by omega) (Int.lt_of_le_of_lt (show ((min t (often k z p) : Nat) : Int) ≤ 100001 by omega) (by decide))) .nil)).tup).le (by decide) (by decide)
      · rw [List.length_map]
        have := Nat.mul_le_mul_right 101 (show (asc (wins k z)).length ≤ n + 1 by omega)
        omega
    exact ((Fits.cons s2 (.cons f1 (.cons f2 (.cons f3 .nil)))).tup).le (by omega) (Nat.le_refl _)
theorem view_depth (k t : Nat) (z : Wd) : (viewD k t z).depth ≤ 3 := by
  have one : ∀ (f : Wd → Int) (l : List Wd), PyData.depthAll (l.map (Vm.pairD f)) ≤ 1 := by
    intro f l
    induction l with
    | nil => simp [PyData.depthAll]
    | cons p r ih =>
      rw [List.map_cons]
      simp only [PyData.depthAll]
      refine Nat.max_le.mpr ⟨?_, ih⟩
      simp [PyData.depth, PyData.depthAll]
  by_cases c : z.length < k
  · rw [view_short c]
    simp [PyData.depth, PyData.depthAll]
  · rw [view_long c, cnt_eq]
    have h := one (fun p => ((min t (often k z p) : Nat) : Int)) (asc (wins k z))
    unfold pairsD
    simp only [PyData.depth, PyData.depthAll, Nat.max_zero, Nat.zero_max]
    omega
end Vf

set_option Elab.async false
set_option linter.all false
set_option maxRecDepth 100000
set_option maxHeartbeats 4000000
namespace Vf
open PySem PySem.Spec PyProof.Rows L2 L2.Vx Vs Vm Vd
abbrev sKUndo : Stmt := inClass clsK 10
/-! ### undo, and what the laws of kept texts share -/
def spUndo0 (C : Addr) : Sp := fun vs H Q _ => ∃ (p dx e : Addr) (sg : Wd) (k t : Nat) (z y : Wd) (ys : List Wd), vs = [.ref p] ∧ KeptAt C H p dx e sg k t z (ys ++ [y]) ∧
  (∀ H', KeptAt C H' p dx e sg k t y ys → Keeps p e H H' → Q .non H')
def Keep4 (d g p e : Addr) (H H' : Hp) : Prop := ∀ b o, b ≠ d → b ≠ g → b ≠ p → b ≠ e → H b = some o → H' b = some o
theorem Keep4.dg {d g p e : Addr} {H H' : Hp} (k : Keeps d g H H') : Keep4 d g p e H H' := fun b o n1 n2 _ _ h => k b o n1 n2 h
theorem Keep4.pe {d g p e : Addr} {H H' : Hp} (k : Keeps p e H H') : Keep4 d g p e H H' := fun b o _ _ n1 n2 h => k b o n1 n2 h
theorem Keep4.sm {d g p e : Addr} {H H' : Hp} (k : Same H H') : Keep4 d g p e H H' := fun b o _ _ _ _ h => k b o h
theorem Keep4.trans {d g p e : Addr} {H H1 H2 : Hp} (a : Keep4 d g p e H H1) (b : Keep4 d g p e H1 H2) : Keep4 d g p e H H2 := fun c o n1 n2 n3 n4 h => b c o n1 n2 n3 n4 (a c o n1 n2 n3 n4 h)
theorem DeckAt.keep {c : Nat} {d g p e : Addr} {H H' : Hp} (h : DeckAt c H d g) (k : Keeps p e H H') (n1 : p ≠ d) (n2 : p ≠ g) (n3 : e ≠ d) (n4 : e ≠ g) : DeckAt c H' d g := by
  obtain ⟨ns, m, n, h1, h2, h3⟩ := h
  exact ⟨ns, m, n, k _ _ n1.symm n3.symm h1, k _ _ n2.symm n4.symm h2, h3⟩
theorem KeptAt.keep {C : Addr} {H H' : Hp} {d g p dx e : Addr} {sg : Wd} {k t : Nat} {z : Wd} {zs : List Wd} (h : KeptAt C H p dx e sg k t z zs) (kk : Keeps d g H H') (n1 : p ≠ d) (n2 : p ≠ g) (n3 : e ≠ d) (n4 : e ≠ g) : KeptAt C H' p dx e sg k t z zs := ⟨kk _ _ n1 n2 h.ob, kk _ _ n3 n4 h.er⟩
theorem seq_ways {a b : TS} {D : Ends} {σ : L2.St} {H : Hp} (A : L2.St → Hp → Prop) (f : (∀ σ' H', A σ' H' → b D σ' H') → a { D with nx := b D } σ H) (r : ∀ σ' H', A σ' H' → b D σ' H') : tSeq a b D σ H := f r
theorem made_same {C x dx : Addr} {H1 H' : Hp} (hx : H1 x = none) (hdx : H1 dx = none) (keep : ∀ b o, b ≠ x → upd (upd H1 dx (.own x)) x (.ins C dx []) b = some o → H' b = some o) : Same H1 H' := fun b o e => by
  have n1 := ne_of_none e hx
  refine keep b o n1 ?_
  rw [upd_ne n1, upd_ne (ne_of_none e hdx)]
  exact e
theorem made_none {C x dx a : Addr} {H1 : Hp} (hx : H1 x = none) (hdx : H1 dx = none) (h : upd (upd H1 dx (.own x)) x (.ins C dx []) a = none) : H1 a = none := by
  cases e : H1 a with
  | none => rfl
  | some o =>
    have n1 := ne_of_none e hx
    rw [upd_ne n1, upd_ne (ne_of_none e hdx), e] at h
    cases h
def twoD (k t : Nat) (z : Wd) : PyData := .list [.str (mkS z), viewD k t z]
theorem shows_two {k t : Nat} {z : Wd} (hc : ∀ c ∈ z, c < 1000) (hk : k ≤ 8) (hz : z.length ≤ 2000) : Shows (twoD k t z) :=
  ((Fits.cons ((fit_str (n := 2000) hc hz).le (Nat.le_refl _) (by decide : 0 ≤ 3)) (.cons (view_fit (n := 2000) hc hk hz (by decide)) .nil)).lst).shows (by decide) (by decide)
theorem dt_two {H : Hp} {l : Addr} {v : V} {k t : Nat} {z : Wd} (e : H l = some (.lst [.str (mkS z), v])) (d : Dt H (fun _ => True) v (viewD k t z)) : Dt H (fun _ => True) (.ref l) (twoD k t z) := .lst e trivial (.cons (.flat rfl) (.cons d .nil))
theorem dt_all {H : Hp} {S : Addr → Prop} {v : V} {D : PyData} (h : Dt H S v D) : Dt H (fun _ => True) v D := h.mono (fun _ _ _ e => e) fun _ _ _ _ => trivial
abbrev FKept (K : PySem.W.Frag) (f : Addr) (fd : FuncData) : Prop := FunD K "__init__" "Kept.__init__" (defArgs sKInit) (defBody sKInit) (defScope sKInit) [.int 1, .str ""] [] f fd
theorem kept_b5 {K : PySem.W.Frag} {f : Addr} {fd : FuncData} (F : FKept K f fd) : Binds K fd ["self", "letters", "width", "top", "text"] [] := by
  obtain ⟨ds, r, b⟩ := F.binds1 (ps := ["self", "letters", "width", "top", "text"]) 5 2 (by intro z; cases z) rfl (fun T kV doc pm an cdv ct us its h1 h2 => match us, its, h1, h2 with | [_, _, _, _, _], [_, _], _, _ => ⟨_, rfl, rfl⟩)
  cases r
  exact b
section
variable {P : Program} {w : World} {K : PySem.W.Frag} {mg : Str → Option Value} {base : Heap} {C : Addr}
theorem scKUndo : FnScope ["self"] ["self"] (defScope sKUndo) := ⟨rfl, rfl, rfl, by decide +kernel, rfl, by decide +kernel, by decide +kernel⟩
theorem ok_undo0 {f : Addr} {fd : FuncData} (F : Fun K "undo" "Kept.undo" sKUndo f fd) (T : TxtK K mg C) (hlen : mg "len" = none) :
    FnOk P w K mg base CX0 1 f fd ["self"] (spUndo0 C) := by
  refine F.ok scKUndo (fun vs H Q E h => ?_) (fun cdv A outer s H vs Q E hr h => ?_)
  · obtain ⟨p, dx, e, sg, k, t, z, y, ys, rfl, _⟩ := h
    rfl
  obtain ⟨p, dx, e, sg, k, t, z, y, ys, rfl, hk, q2⟩ := h
  have np := hk.ne
  refine ⟨_, (pss_cons (ps_if (pt_cmpR op_eq (pe_callB call_len_seq (by rfl) hlen PySem.boot_len (pa_cons (pe_fld (pv 0) rfl) pa_nil)) pe_int (nomark _)) (pss_one ps_never) pss_nil)
    (pss_one (ps_fld (pv 0) (pe_bm0 PySem.F.plainAttrs_list PySem.F.slot_list_pop PySem.F.type_list_pop mt_pop (pe_fld (pv 0) rfl)) rfl))), ?_⟩
  refine ⟨_, rfl, p, C, dx, _, _, rfl, hk.ob, T.cl, T.nE, rfl, e, _, rfl, .inl (SqL.of hk.er), rfl, ?_⟩
  rw [List.length_map, List.length_map]
  refine ⟨_, rfl, if_fl (decide_eq_false fun z => ?_) ?_⟩
  · have z' := V.int.inj z
    rw [List.length_append] at z'
    have z2 : ([y] : List Wd).length = 1 := rfl
    omega
  have her := hk.er
  rw [List.map_append, List.map_append] at her
  refine ⟨_, rfl, p, C, dx, _, _, rfl, hk.ob, T.cl, T.nE, rfl, ?_⟩
  refine ⟨.inl ⟨rfl, _, SqL.of her⟩, e, _, .str (mkS y), rfl, rfl, her, by simp, ?_⟩
  refine ⟨_, rfl, p, C, dx, _, rfl, (upd_ne np).trans hk.ob, T.cl, T.nX, (by show 5 < 1000; decide), ?_⟩
  refine q2 _ ⟨upd_same, ?_⟩ fun b o n1 n2 g => ?_
  · rw [upd_ne np.symm, upd_same]
    simp
  · rw [upd_ne n1, upd_ne n2]
    exact g
end
end Vf

set_option Elab.async false
set_option linter.all false
set_option maxRecDepth 100000
set_option maxHeartbeats 1000000
namespace Vf
open PySem PySem.Spec PyProof.Rows L2 L2.Vx Vs Vm Vd
abbrev sTurn : Stmt := top 29
/-! ### one letter put otherwise, and back -/
def spTurn (C : Addr) : Sp := fun vs H Q _ => ∃ (d g p dx e : Addr) (sg : Wd) (k t : Nat) (z : Wd) (zs : List Wd) (c : Nat), vs = [.ref d, .ref p, .str (mkS sg), .int k, .int t] ∧ DeckAt c H d g ∧ c + 3 ≤ most ∧ KeptAt C H p dx e sg k t z zs ∧
  (p ≠ d ∧ p ≠ g ∧ e ≠ d ∧ e ≠ g) ∧ GoodS sg ∧ (∀ c ∈ z, c ∈ sg) ∧ 1 ≤ z.length ∧ z.length ≤ 500 ∧ zs.length ≤ 50000 ∧ 1 ≤ k ∧ k ≤ 8 ∧ 1 ≤ t ∧
  ∀ (ws : List Wd) (H' : Hp), ws.length ≤ zs.length + 4 → KeptAt C H' p dx e sg k t z ws → DeckAt (c + 3) H' d g → Keep4 d g p e H H' → Q (.bl true) H'
theorem len_turn {C : Addr} : ∀ vs H Q E, spTurn C vs H Q E → vs.length = (["_law_deck_here", "_law_here", "_law_signs", "_law_k", "_law_t"] : List Str).length := fun vs H Q E ⟨_, _, _, _, _, _, _, _, _, _, _, e, _⟩ => by
  rw [e]; rfl
theorem cut_over {z : Wd} {i j : Nat} (hi : i ≤ z.length) : cutS (mkS z) (some (i : Int)) (some (j : Int)) = mkS ((z.drop i).take (j - i)) := by
  by_cases hj : j ≤ z.length
  · by_cases h : i ≤ j
    · exact cut_mid h hj
    · unfold cutS
      rw [mkS_length, mkS_cps]
      rw [show HT.sIx z.length z.length (some (j : Int)) = min j z.length from HT.sIx_nat _ _ j, show HT.sIx z.length 0 (some (i : Int)) = min i z.length from HT.sIx_nat _ _ i, Nat.min_eq_left hj, Nat.min_eq_left hi]
      rfl
  · unfold cutS
    rw [mkS_length, mkS_cps]
    rw [show HT.sIx z.length z.length (some (j : Int)) = min j z.length from HT.sIx_nat _ _ j, show HT.sIx z.length 0 (some (i : Int)) = min i z.length from HT.sIx_nat _ _ i, Nat.min_eq_left hi, Nat.min_eq_right (by omega)]
    show mkS ((z.drop i).take (z.length - i)) = _
    congr 1
    rw [List.take_eq_take_iff, List.length_drop]
    omega
theorem sum_ints : ∀ (l : List Wd) (f : Wd → Nat), (l.map fun p => (f p : Int)).sum = ((l.map f).sum : Nat)
  | [], f => rfl
  | p :: l, f => by
    rw [List.map_cons, List.map_cons, List.sum_cons, List.sum_cons, sum_ints l f, Int.natCast_add]
theorem sum_tabs' (k : Nat) (z : Wd) : ((asc (wins k z)).map fun p => often k z p).sum = (wins k z).length := by
  have := sum_tabs k z
  unfold tab at this
  rw [List.map_map] at this
  exact this
theorem often_zero {k : Nat} {z p : Wd} (h : p ∉ asc (wins k z)) : ((often k z p : Nat) : Int) = 0 := by
  have : ¬ 0 < often k z p := fun c => h (mem_asc.mpr (often_pos.mp c))
  omega
theorem listD_plain {k : Nat} {z : Wd} (hz : ∀ c ∈ z, c < 1000) (f : Wd → Int) : SeqAt.shaped (listD f (asc (wins k z))) = true := by
  have hp : plainD (listD f (asc (wins k z))) = true := by
    show plainDs _ = true
    refine plainAll_of fun d hd => ?_
    obtain ⟨p, hm, rfl⟩ := List.mem_map.mp hd
    have hpz := wins_mem (mem_asc.mp hm)
    show plainDs [.str (mkS p), .int (f p)] = true
    simp only [plainDs]
    rw [plain_mkS fun c hc => hz c (hpz c hc)]
    simp [plainD]
  have hd : ∀ l : List Wd, PyData.depthAll (l.map (pairD f)) ≤ 1 := fun l => by
    induction l with
    | nil => exact Nat.zero_le _
    | cons p r ih =>
      rw [List.map_cons]
      simp only [PyData.depthAll, PyData.depth, Vm.pairD]
      exact Nat.max_le.mpr ⟨by decide, ih⟩
  show (PyData.canLay0 _ && decide (_ ≤ 64)) = true
  rw [lay_plain _ hp, Bool.true_and]
  refine decide_eq_true ?_
  unfold listD
  simp only [PyData.depth]
  have := hd (asc (wins k z))
  omega
theorem listD_eqv {k : Nat} {z : Wd} (hz : ∀ c ∈ z, c < 1000) (f : Wd → Int) : PyData.eqv (listD f (asc (wins k z))) (listD f (asc (wins k z))) = true := SeqAt.eqv_refl _ (SeqAt.canLay_of_shaped (listD_plain hz f))
theorem listD_dp {K : PySem.W.Frag} {H : Hp} {S : Addr → Prop} {v : V} {k : Nat} {z : Wd} (hz : ∀ c ∈ z, c < 1000) {f : Wd → Int} (h : Dt H S v (listD f (asc (wins k z)))) : Dp K H v (listD f (asc (wins k z))) := by
  refine dt_dp h ?_
  show plainDs _ = true
  refine plainAll_of fun d hd => ?_
  obtain ⟨p, hm, rfl⟩ := List.mem_map.mp hd
  have hpz := wins_mem (mem_asc.mp hm)
  show plainDs [.str (mkS p), .int (f p)] = true
  simp only [plainDs]
  rw [plain_mkS fun c hc => hz c (hpz c hc)]
  simp [plainD]
def twiceD (k t : Nat) (z : Wd) : PyData := .list [viewD k t z, viewD k t z]
theorem shows_twice {k t : Nat} {z : Wd} (hc : ∀ c ∈ z, c < 1000) (hk : k ≤ 8) (hz : z.length ≤ 2000) : Shows (twiceD k t z) := by
  have f := view_fit (t := t) hc hk (Nat.le_refl z.length) (by omega)
  exact (fit_lst (ds := [viewD k t z, viewD k t z]) fun x hx => by
    simp only [List.mem_cons, List.not_mem_nil, or_false, or_self] at hx
    subst hx
    exact f).shows (by simp; omega) (by decide)
theorem wipe_two (σ : L2.St) (x y : Option V) : wipe (((wipe σ [16, 17]).set 16 x).set 17 y) [16, 17] = wipe σ [16, 17] := by
  show (((((((σ.set 17 none).set 16 none).set 16 x).set 17 y).set 17 none).set 16 none)) = (σ.set 17 none).set 16 none
  apply List.ext_getElem?
  intro j
  simp only [List.getElem?_set, List.length_set]
  by_cases h1 : 16 = j
  · subst h1
    simp
  · by_cases h2 : 17 = j
    · subst h2
      simp
    · simp [h1, h2]
theorem kinds_le {k : Nat} (z : Wd) : kinds k z ≤ z.length + 1 := by
  unfold kinds
  have := asc_length_le (wins k z)
  rw [wins_length] at this
  omega
structure TxtR (mg : Str → Option Value) (C fW fU fF fI fJ fN fL : Addr) : Prop extends TxtW mg fW fU where
  pieces : mg "pieces_of" = some (.ref fF)
  view : mg "view_of" = some (.ref fI)
  joined : mg "joined" = some (.ref fJ)
  seen : mg "_law_seen" = some (.ref fN)
  less : mg "_law_less" = some (.ref fL)
  rep : mg "repr" = none
  max : mg "max" = none
  sum : mg "sum" = none
section
variable {P : Program} {w : World} {K : PySem.W.Frag} {mg : Str → Option Value} {base : Heap} {C : Addr}
abbrev nTurn : List Str := ["_law_deck_here", "_law_here", "_law_signs", "_law_k", "_law_t", "_law_word_here", "_law_at", "_law_sign", "_law_gone", "_law_fresh", "_law_low", "_law_old", "_law_new", "_law_ahead", "_law_behind", "_law_whole", "_law_bit", "_law_number"]
theorem scTurn : FnScope nTurn ["_law_deck_here", "_law_here", "_law_signs", "_law_k", "_law_t"] (defScope sTurn) := ⟨rfl, rfl, rfl, by decide +kernel, rfl, by decide +kernel, by decide +kernel⟩
theorem ok_turn {f fW fU fF fI fJ fN fL fX fV fT fP fC fO aX aV : Addr} {fd fdW fdU fdF fdI fdJ fdN fdL fdX fdV fdT fdP fdC fdO : FuncData} (F : Fun K "_law_turn_right" "_law_turn_right" sTurn f fd) (TK : TxtK K mg C) (T : TxtR mg C fW fU fF fI fJ fN fL)
    (GW : FnOk P w K mg base CX0 1 fW fdW ["_law_deck_here", "_law_span"] spDraw) (bW : Binds K fdW ["_law_deck_here", "_law_span"] []) (kW : PySem.W.keepIn K (.ref fW) = true)
    (GK : FnOk P w K mg base CX0 2 fU fdU ["_law_deck_here", "_law_some"] spPickS) (bK : Binds K fdU ["_law_deck_here", "_law_some"] []) (kK : PySem.W.keepIn K (.ref fU) = true)
    (GF : FnOk P w K mg base CX0 2 fF fdF ["width", "text"] (spPiecesF K)) (bF : Binds K fdF ["width", "text"] []) (kF : PySem.W.keepIn K (.ref fF) = true)
    (GI : FnOk P w K mg base CX0 3 fI fdI ["width", "top", "text"] spView) (bI' : Binds K fdI ["width", "top", "text"] []) (kI : PySem.W.keepIn K (.ref fI) = true)
    (GJ : FnOk P w K mg base CX0 4 fJ fdJ ["width", "top", "view", "other"] spJoined) (bJ : Binds K fdJ ["width", "top", "view", "other"] []) (kJ : PySem.W.keepIn K (.ref fJ) = true)
    (GN : FnOk P w K mg base CX0 1 fN fdN ["_law_k", "_law_t", "_law_word_here"] spView) (bN : Binds K fdN ["_law_k", "_law_t", "_law_word_here"] []) (kN : PySem.W.keepIn K (.ref fN) = true)
    (GL : FnOk P w K mg base CX0 1 fL fdL ["_law_some", "_law_gone", "_law_come"] (spLess K)) (bL : Binds K fdL ["_law_some", "_law_gone", "_law_come"] []) (kL : PySem.W.keepIn K (.ref fL) = true)
    (GX : FnOk P w K mg base CX0 1 fX fdX ["self"] (spKText C)) (bX : Binds K fdX ["self"] []) (pX : PropOf K C "text" aX fX)
    (GV : FnOk P w K mg base CX0 4 fV fdV ["self"] (spKView C)) (bV : Binds K fdV ["self"] []) (pV : PropOf K C "view" aV fV)
    (GT : FnOk P w K mg base CX0 3 fT fdT ["self", "at"] (spKItem C)) (bI : Binds K fdT ["self", "at"] []) (mI : Meth K C "__getitem__" fT) (iI : PySem.W.fnIn K fT = true)
    (GP : FnOk P w K mg base CX0 4 fP fdP ["self", "place", "text"] (spKPut C)) (bP : Binds K fdP ["self", "place", "text"] []) (mP : Meth K C "put" fP)
    (GC : FnOk P w K mg base CX0 4 fC fdC ["self", "start", "stop"] (spKCut C)) (bC : Binds K fdC ["self", "start", "stop"] []) (mC : Meth K C "cut" fC)
    (GU : FnOk P w K mg base CX0 1 fO fdO ["self"] (spUndo0 C)) (bU : Binds K fdO ["self"] []) (mU : Meth K C "undo" fO) :
    FnG P w K mg base 6 f fd ["_law_deck_here", "_law_here", "_law_signs", "_law_k", "_law_t"] (spTurn C) := by
  refine FunG F scTurn len_turn (fun cdv A outer s H vs Q E hr hg h => ?_)
  obtain ⟨d, g, p, dx, e, sg, k, t, z, zs, c, rfl, hD, hc, hk, ⟨m1, m2, m3, m4⟩, gs, hz, hz1, hz5, hzs, k1, k8, t1, q⟩ := h
  have hr1 : Room 1 _ := hr.mono (by decide)
  have hr2 : Room 2 _ := hr.mono (by decide)
  have hr3 : Room 3 _ := hr.mono (by decide)
  have hr4 : Room 4 _ := hr.mono (by decide)
  have hr5 : Room 5 _ := hr.mono (by decide)
  have hu : (A.deeper (envOfC "_law_turn_right" (defScope sTurn) s.heap.objs.size f cdv)).units + 100 < cLine := by
    have z := hr.un
    omega
  have hu64 : (A.deeper (envOfC "_law_turn_right" (defScope sTurn) s.heap.objs.size f cdv)).units + 64 < cLine := by omega
  refine ⟨_, (pss_cons (ps_set (i := 5) scTurn.nd rfl (Or.inl rfl) (pe_prop (pv 1) TK.cl pX GX hr2 bX .nil pass0 rfl))
    (pss_cons (ps_par (i := 6) (j := 7) rfl scTurn.nd rfl rfl (by decide) rfl rfl (pa_cons (pe_call GW hr1 rfl T.draw kW bW .nil pass0 (pa_cons (pv 0) (pa_cons (pe_callB call_len_str (by rfl) T.len PySem.boot_len (pa_cons (pv 5) pa_nil)) pa_nil))) (pa_cons (pe_call GK hr2 rfl T.pick kK bK .nil pass0 (pa_cons (pv 0) (pa_cons (pv 2) pa_nil))) pa_nil)) (by rfl))
    (pss_cons (ps_set (i := 8) scTurn.nd rfl (Or.inl rfl) (pe_meth (pv 1) TK.cl mC GC hr4 bC .nil pass0 (pa_cons (pv 6) (pa_cons (pe_op op_add (pv 6) pe_int) pa_nil))))
    (pss_cons (ps_expr (pe_meth (pv 1) TK.cl mP GP hr4 bP .nil pass0 (pa_cons (pv 6) (pa_cons (pv 7) pa_nil))))
    (pss_cons (ps_par (i := 9) (j := 10) rfl scTurn.nd rfl rfl (by decide) rfl rfl (pa_cons (pe_op op_add_str (pe_op op_add_str (pe_slice sl_str (pv 5) po_none (po_some (pv 6))) (pv 7)) (pe_slice sl_str (pv 5) (po_some (pe_op op_add (pv 6) pe_int)) po_none)) (pa_cons (pe_callB (call_max2 rfl) (by rfl) T.max (by decide +kernel) (pa_cons pe_int (pa_cons (pe_op op_add (pe_op op_sub (pv 6) (pv 3)) pe_int) pa_nil))) pa_nil)) (by rfl))
    (pss_cons (ps_if (PW.pt (pw_or (pt_cmpR op_ne (pv 8) (pe_ix ix_str (pv 5) (pv 6) (fun _ _ => rfl)) (nomark _)) (pw_or (pt_cmpR op_ne (pe_prop (pv 1) TK.cl pX GX hr2 bX .nil pass0 rfl) (pv 9) (nomark _)) (pw_or1 (pt_cmpR op_ne (pe_ixO mI iI GT hr4 bI .nil pass0 (pv 1) (pv 6) (fun _ _ => rfl)) (pv 7) (nomark _)))))) (pss_one (ps_ret pe_bl)) pss_nil)
    (pss_cons (ps_par (i := 11) (j := 12) rfl scTurn.nd rfl rfl (by decide) rfl rfl (pa_cons (pe_call GF hr2 rfl T.pieces kF bF .nil pass0 (pa_cons (pv 3) (pa_cons (pe_slice sl_str (pv 5) (po_some (pv 10)) (po_some (pe_op op_add (pv 6) (pv 3)))) pa_nil))) (pa_cons (pe_call GF hr2 rfl T.pieces kF bF .nil pass0 (pa_cons (pv 3) (pa_cons (pe_slice sl_str (pv 9) (po_some (pv 10)) (po_some (pe_op op_add (pv 6) (pv 3)))) pa_nil))) pa_nil)) (by rfl))
    (pss_cons (ps_if (PW.pt (pw_or (pt_cmpR op_gt (pe_callB (cr_sum rfl) (by rfl) T.sum (by decide +kernel) (pa_cons (pe_lc (own := [("_law_bit", 16), ("_law_number", 17)]) (g := gTup K 2 (gCons (gName 16) (gCons (gName 17) gNil))) (tt := tYes) rfl scTurn.nd (pi_tup (pv 11)) (blkOk_by (N := nTurn) (sc := defScope sTurn) (by decide +kernel)) (fun _ _ _ _ _ => (pg_tup rfl (pgs_cons (pg_name (i := 16) scTurn.nd rfl (Or.inl rfl)) (pgs_cons (pg_name (i := 17) scTurn.nd rfl (Or.inl rfl)) pgs_nil)))) (fun _ _ _ _ _ => pts_nil) (fun _ _ _ _ _ => by exact pv 17)) pa_nil)) (pv 3) (nomark _)) (pw_or1 (pt_cmpR op_gt (pe_callB (cr_sum rfl) (by rfl) T.sum (by decide +kernel) (pa_cons (pe_lc (own := [("_law_bit", 16), ("_law_number", 17)]) (g := gTup K 2 (gCons (gName 16) (gCons (gName 17) gNil))) (tt := tYes) rfl scTurn.nd (pi_tup (pv 12)) (blkOk_by (N := nTurn) (sc := defScope sTurn) (by decide +kernel)) (fun _ _ _ _ _ => (pg_tup rfl (pgs_cons (pg_name (i := 16) scTurn.nd rfl (Or.inl rfl)) (pgs_cons (pg_name (i := 17) scTurn.nd rfl (Or.inl rfl)) pgs_nil)))) (fun _ _ _ _ _ => pts_nil) (fun _ _ _ _ _ => by exact pv 17)) pa_nil)) (pv 3) (nomark _))))) (pss_one (ps_ret pe_bl)) pss_nil)
    (pss_cons (ps_if (pt_cmpR (op_neD hu64) (pe_callTy call_list_of (by rfl) T.list (by decide +kernel) (pa_cons (pe_call GF hr2 rfl T.pieces kF bF .nil pass0 (pa_cons (pv 3) (pa_cons (pv 9) pa_nil))) pa_nil)) (pe_call GL hr1 rfl T.less kL bL .nil pass0 (pa_cons (pe_call GF hr2 rfl T.pieces kF bF .nil pass0 (pa_cons (pv 3) (pa_cons (pv 5) pa_nil))) (pa_cons (pv 11) (pa_cons (pv 12) pa_nil)))) (nomark _)) (pss_one (ps_ret pe_bl)) pss_nil)
    (pss_cons (ps_par (i := 13) (j := 14) rfl scTurn.nd rfl rfl (by decide) rfl rfl (pa_cons (pe_call GI hr3 rfl T.view kI bI' .nil pass0 (pa_cons (pv 3) (pa_cons (pv 4) (pa_cons (pe_slice sl_str (pv 9) po_none (po_some (pv 6))) pa_nil)))) (pa_cons (pe_call GI hr3 rfl T.view kI bI' .nil pass0 (pa_cons (pv 3) (pa_cons (pv 4) (pa_cons (pe_slice sl_str (pv 9) (po_some (pe_op op_add (pv 6) pe_int)) po_none) pa_nil)))) pa_nil)) (by rfl))
    (pss_cons (ps_set (i := 15) scTurn.nd rfl (Or.inl rfl) (pe_call GJ hr4 rfl T.joined kJ bJ .nil pass0 (pa_cons (pv 3) (pa_cons (pv 4) (pa_cons (pe_call GJ hr4 rfl T.joined kJ bJ .nil pass0 (pa_cons (pv 3) (pa_cons (pv 4) (pa_cons (pv 13) (pa_cons (pe_call GI hr3 rfl T.view kI bI' .nil pass0 (pa_cons (pv 3) (pa_cons (pv 4) (pa_cons (pv 7) pa_nil)))) pa_nil))))) (pa_cons (pv 14) pa_nil))))))
    (pss_cons (ps_if (pt_cmpR op_ne (pe_callB (call_rep hg hu (fun _ => True)) (by rfl) T.rep (by decide +kernel) (pa_cons (pe_lst (pa_cons (pe_prop (pv 1) TK.cl pV GV hr5 bV .nil pass0 rfl) (pa_cons (pv 15) pa_nil))) pa_nil)) (pe_callB (call_rep hg hu (fun _ => True)) (by rfl) T.rep (by decide +kernel) (pa_cons (pe_op op_rep (pe_lst (pa_cons (pe_call GN hr1 rfl T.seen kN bN .nil pass0 (pa_cons (pv 3) (pa_cons (pv 4) (pa_cons (pv 9) pa_nil)))) pa_nil)) pe_int) pa_nil)) (nomark _)) (pss_one (ps_ret pe_bl)) pss_nil)
    (pss_cons (ps_if (pt_cmpR op_eq (pe_call GW hr1 rfl T.draw kW bW .nil pass0 (pa_cons (pv 0) (pa_cons pe_int pa_nil))) pe_int (nomark _)) (pss_cons (ps_expr (pe_meth0 (pv 1) TK.cl mU GU hr1 bU .nil pass0))
    (pss_one (ps_expr (pe_meth0 (pv 1) TK.cl mU GU hr1 bU .nil pass0)))) (pss_cons (ps_expr (pe_meth (pv 1) TK.cl mC GC hr4 bC .nil pass0 (pa_cons (pv 6) (pa_cons (pe_op op_add (pv 6) pe_int) pa_nil))))
    (pss_one (ps_expr (pe_meth (pv 1) TK.cl mP GP hr4 bP .nil pass0 (pa_cons (pv 6) (pa_cons (pv 8) pa_nil)))))))
    (pss_one (ps_ret (pe_cmpR op_eq (pe_callB (call_rep hg hu (fun _ => True)) (by rfl) T.rep (by decide +kernel) (pa_cons (pe_lst (pa_cons (pe_prop (pv 1) TK.cl pX GX hr2 bX .nil pass0 rfl) (pa_cons (pe_prop (pv 1) TK.cl pV GV hr5 bV .nil pass0 rfl) pa_nil))) pa_nil)) (pe_callB (call_rep hg hu (fun _ => True)) (by rfl) T.rep (by decide +kernel) (pa_cons (pe_lst (pa_cons (pv 5) (pa_cons (pe_call GN hr1 rfl T.seen kN bN .nil pass0 (pa_cons (pv 3) (pa_cons (pv 4) (pa_cons (pv 5) pa_nil)))) pa_nil))) pa_nil)) (nomark _))))))))))))))))), ?_⟩
  have hl : (mkS z).length = z.length := mkS_length z
  have hls : (mkS sg).length = sg.length := mkS_length sg
  have hz16 : (mkS z).length ≤ sizeLine := by rw [hl, sizeLine_eq]; omega
  refine ⟨_, rfl, p, dx, _, rfl, hk.ob, p, dx, e, sg, k, t, z, zs, rfl, hk, ?_⟩
  refine ⟨_, rfl, _, rfl, _, rfl, hz16, d, g, _, c, rfl, by rw [hl]; omega, by rw [hl]; omega, hD, by omega, fun r H1 r0 r1 hD1 kk1 => ?_⟩
  refine ⟨_, rfl, _, rfl, d, g, mkS sg, c + 1, rfl, by rw [hls]; exact gs.1, by rw [hls]; have := gs.2.1; omega, hD1, by omega, fun x H2 hx hD2 kk2 => ⟨_, _, rfl, ?_⟩⟩
  rw [mkS_cps] at hx
  rw [hl] at r1
  obtain ⟨a, rfl⟩ : ∃ a : Nat, r = (a : Int) := ⟨r.toNat, by omega⟩
  have ha : a < z.length := by omega
  change tSeq _ _ _ (List.set (List.set _ _ _) _ (some (V.str (mkS [x])))) _
  have hk2 := hk.keep (kk1.trans kk2) m1 m2 m3 m4
  have K2 : Keep4 d g p e H H2 := .dg (kk1.trans kk2)
  -- the letter is taken out, another one put in
  have e5 : z.length ≤ 100000 := by omega
  have hzs5 : zs.length ≤ 100000 := by omega
  obtain ⟨w0, hw0⟩ : ∃ w0, z[a]? = some w0 := ⟨z[a], List.getElem?_eq_getElem ha⟩
  have eone : (z.drop a).take (a + 1 - a) = [w0] := by
    rw [show a + 1 - a = 1 by omega]
    have e := List.drop_eq_getElem_cons ha
    rw [e, List.take_succ_cons, List.take_zero]
    rw [List.getElem?_eq_getElem ha] at hw0
    rw [Option.some.inj hw0]
  have w0in : w0 ∈ sg := hz w0 (List.mem_of_getElem? hw0)
  refine ⟨_, rfl, p, dx, _, rfl, hk2.ob, rfl, _, rfl, _, rfl, _, _, rfl, rfl, p, dx, e, sg, k, t, z, zs, a, a + 1, rfl, hk2, hzs5, e5, by omega, by omega, fun H3 hk3 kk3 => ?_⟩
  rw [eone]
  have lh : (z.take a).length = a := by rw [List.length_take]; omega
  have lt1 : (zs ++ [z]).length ≤ 100000 := by rw [List.length_append]; show zs.length + 1 ≤ _; omega
  have lc : (z.take a ++ z.drop (a + 1)).length ≤ 100000 := by rw [List.length_append, List.length_take, List.length_drop]; omega
  have lc2 : a ≤ (z.take a ++ z.drop (a + 1)).length := by rw [List.length_append, lh]; omega
  refine ⟨_, rfl, p, dx, _, rfl, hk3.ob, rfl, _, rfl, _, rfl, p, dx, e, sg, k, t, z.take a ++ z.drop (a + 1), zs ++ [z], a, [x], rfl, hk3, lt1, lc, lc2, fun c hc => by rw [List.mem_singleton.mp hc]; exact hx, by show 1 ≤ 100000; decide, fun H4 hk4 kk4 => ?_⟩
  have ey : (z.take a ++ z.drop (a + 1)).take a ++ [x] ++ (z.take a ++ z.drop (a + 1)).drop a = other z a x := by
    unfold other
    rw [List.take_append_of_le_length (by omega), List.take_take, Nat.min_self, List.drop_append_of_le_length (by omega), List.drop_eq_nil_of_le (by omega), List.nil_append]
  rw [ey] at hk4
  have ely : (other z a x).length = z.length := other_length ha
  have eyin : ∀ c ∈ other z a x, c ∈ sg := by
    intro c hc
    unfold other at hc
    rcases List.mem_append.mp hc with h | h
    · rcases List.mem_append.mp h with h | h
      · exact hz c (List.mem_of_mem_take h)
      · rw [List.mem_singleton.mp h]; exact hx
    · exact hz c (List.mem_of_mem_drop h)
  have eya : (other z a x)[a]? = some x := by
    rw [other_set ha, List.getElem?_set_self (by exact ha)]
  have eyset : (other z a x).take a ++ [w0] ++ (other z a x).drop (a + 1) = z := by
    have h1 : other (other z a x) a w0 = z := by
      rw [other_set (by rw [ely]; exact ha), other_set ha, List.set_set]
      apply List.ext_getElem?
      intro j
      by_cases hj : a = j
      · subst hj
        rw [List.getElem?_set_self (by exact ha), hw0]
      · rw [List.getElem?_set_ne hj]
    exact h1
  have eoth : ∀ {k p}, 1 ≤ k → often k z p + often k (stretch k a (other z a x)) p = often k (other z a x) p + often k (stretch k a z) p := fun h => often_other h ha
  refine ⟨_, rfl, _, rfl, _, rfl, _, rfl, hz16, ?_⟩
  rw [cut_head]
  refine ⟨_, rfl, _, _, rfl, rfl, ?_, ?_⟩
  · rw [mkS_length, mkS_length, List.length_take, sizeLine_eq]
    show _ + 1 ≤ _
    omega
  rw [mkS_append]
  refine ⟨_, rfl, _, rfl, _, _, rfl, rfl, _, rfl, _, rfl, hz16, ?_⟩
  have ect : ∀ {z : Wd}, a < z.length → cutS (mkS z) (some ((a : Int) + 1)) none = mkS (z.drop (a + 1)) := fun {z} h => by
    have e := cut_tail (z := z) (n := a + 1) (by omega)
    rw [Int.natCast_add] at e
    exact e
  rw [ect ha]
  refine ⟨_, _, rfl, rfl, ?_, ?_⟩
  · rw [mkS_length, mkS_length, List.length_append, List.length_take, List.length_drop, sizeLine_eq]
    show _ + 1 + _ ≤ _
    omega
  rw [mkS_append, show z.take a ++ [x] ++ z.drop (a + 1) = other z a x from rfl]
  generalize other z a x = y at ely eyin eya eyset eoth hk4 ⊢
  have hya : a < y.length := by omega
  have hly : (mkS y).length = y.length := mkS_length y
  have hy16 : (mkS y).length ≤ sizeLine := by rw [hly, sizeLine_eq]; omega
  refine ⟨_, rfl, _, rfl, _, _, rfl, rfl, _, _, rfl, rfl, _, _, rfl, ⟨_, _, rfl, ?_⟩⟩
  have elow : (if ((a : Int) - (k : Int) + 1) > 0 then (a : Int) - (k : Int) + 1 else 0) = ((low k a : Nat) : Int) := by
    unfold low
    split <;> omega
  rw [elow]
  -- what was taken out; text and letter as they are now
  have hD3 := hD2.keep kk3 m1 m2 m3 m4
  have hD4 := hD3.keep kk4 m1 m2 m3 m4
  have K4 : Keep4 d g p e H H4 := (K2.trans (.pe kk3)).trans (.pe kk4)
  have y5 : y.length ≤ 100000 := by omega
  refine ⟨_, rfl, _, rfl, _, rfl, _, _, _, rfl, rfl, hz16, (by rw [mkS_cps]; exact atI_nat hw0), rfl, _, rfl, if_fl ?_ ?_⟩
  · show (!decide (V.str (mkS [w0]) = V.str (mkS [w0]))) = false
    simp
  refine ⟨_, rfl, p, dx, _, rfl, hk4.ob, p, dx, e, sg, k, t, y, _, rfl, hk4, _, rfl, rfl, _, rfl, if_fl (by simp) ?_⟩
  refine ⟨_, rfl, _, rfl, p, dx, _, rfl, hk4.ob, p, dx, e, sg, k, t, y, _, a, x, rfl, hk4, y5, eya, fun H5 s5 => ?_⟩
  refine ⟨_, rfl, rfl, _, rfl, if_fl (by simp) ?_⟩
  -- the pieces of the stretches
  have elo : low k a ≤ z.length := by unfold low; omega
  have est : ∀ {z : Wd}, low k a ≤ z.length → cutS (mkS z) (some ((low k a : Nat) : Int)) (some ((a : Int) + (k : Int))) = mkS (stretch k a z) := fun {z} h => by
    have e := cut_over (z := z) (i := low k a) (j := a + k) h
    rw [Int.natCast_add] at e
    exact e
  have ls1 : (stretch k a z).length ≤ 4000 := by have := stretch_length k a z; omega
  have ls2 : (stretch k a y).length ≤ 4000 := by have := stretch_length k a y; omega
  refine ⟨_, rfl, _, rfl, _, rfl, _, rfl, _, rfl, _, rfl, _, _, rfl, rfl, _, rfl, _, rfl, hz16, ?_⟩
  rw [est elo]
  refine ⟨k, stretch k a z, rfl, k1, by omega, ls1, fun a1 xs1 H6 s6 tF1 => ?_⟩
  refine ⟨_, rfl, _, rfl, _, rfl, _, rfl, _, rfl, _, rfl, _, _, rfl, rfl, _, rfl, _, rfl, hy16, ?_⟩
  rw [est (by omega)]
  refine ⟨k, stretch k a y, rfl, k1, by omega, ls2, fun a2 xs2 HH s7 tF2 => ⟨_, _, rfl, ?_⟩⟩
  replace tF1 := tF1.same s7
  change tSeq _ _ _ [some (.ref d), some (.ref p), some (.str (mkS sg)), some (.int k), some (.int t), some (.str (mkS z)), some (.int a), some (.str (mkS [x])), some (.str (mkS [w0])), some (.str (mkS y)), some (.int (low k a : Nat)), some (.ref a1), some (.ref a2), none, none, none, none, none] _
  refine ⟨_, rfl, a1, rfl, ⟨xs1, tF1.seq⟩, fun D hD => ?_⟩
  refine lc_it (walk_tup (xs := xs1)) (fun i H' => H' D = some (.lst ((((asc (wins k (stretch k a z))).take i).map fun p => (often k (stretch k a z) p : Int)).map V.int)) ∧ Same HH H') ⟨upd_same, same_new hD _⟩ (fun i H' _ ⟨_, s⟩ => (tF1.same s).seq) ?_ ?_
  · rintro i x Hx Hy hi ⟨n1, n2⟩ ⟨rfl, hx⟩
    obtain ⟨q1, e1, q2, rfl, q3⟩ := (tF1.same n2).at hx
    have hil : i < (asc (wins k (stretch k a z))).length := (List.getElem?_eq_some_iff.mp q2).1
    refine ⟨e1, _, rfl, SqT.of q3, rfl, _, _, rfl, _, _, rfl, rfl, wipe_two _ _ _, _, rfl, ?_⟩
    refine ⟨_, n1, by rw [List.length_map, List.length_map, List.length_take, sizeLine_eq]; have := asc_length_le (wins k (stretch k a z)); rw [wins_length] at this; omega, ?_, fun b o e => ?_⟩
    · rw [upd_same, List.take_add_one, q2]
      simp
    · rw [upd_ne (ne_of_none e hD)]
      exact n2 b o e
  rintro Hx1 ⟨n1, s1x⟩
  rw [tF1.len, List.take_length] at n1
  refine ⟨D, _, rfl, SqL.of n1, _, rfl, _, _, rfl, rfl, _, rfl, if_fl (decide_eq_false ?_) ?_⟩
  · rw [sum_ints, sum_tabs']
    have := stretch_few (k := k) (a := a) (z := z) k1 ha
    omega
  replace tF1 := tF1.same s1x
  replace tF2 := tF2.same s1x
  refine ⟨_, rfl, a2, rfl, ⟨xs2, tF2.seq⟩, fun D hD => ?_⟩
  refine lc_it (walk_tup (xs := xs2)) (fun i H' => H' D = some (.lst ((((asc (wins k (stretch k a y))).take i).map fun p => (often k (stretch k a y) p : Int)).map V.int)) ∧ Same Hx1 H') ⟨upd_same, same_new hD _⟩ (fun i H' _ ⟨_, s⟩ => (tF2.same s).seq) ?_ ?_
  · rintro i x Hx Hy hi ⟨n1, n2⟩ ⟨rfl, hx⟩
    obtain ⟨q1, e1, q2, rfl, q3⟩ := (tF2.same n2).at hx
    have hil : i < (asc (wins k (stretch k a y))).length := (List.getElem?_eq_some_iff.mp q2).1
    refine ⟨e1, _, rfl, SqT.of q3, rfl, _, _, rfl, _, _, rfl, rfl, wipe_two _ _ _, _, rfl, ?_⟩
    refine ⟨_, n1, by rw [List.length_map, List.length_map, List.length_take, sizeLine_eq]; have := asc_length_le (wins k (stretch k a y)); rw [wins_length] at this; omega, ?_, fun b o e => ?_⟩
    · rw [upd_same, List.take_add_one, q2]
      simp
    · rw [upd_ne (ne_of_none e hD)]
      exact n2 b o e
  rintro Hx2 ⟨n1, s2x⟩
  rw [tF2.len, List.take_length] at n1
  refine ⟨D, _, rfl, SqL.of n1, _, rfl, _, _, rfl, rfl, _, rfl, if_fl (decide_eq_false ?_) ?_⟩
  · rw [sum_ints, sum_tabs']
    have := stretch_few (k := k) (a := a) (z := y) k1 hya
    omega
  replace tF1 := tF1.same s2x
  replace tF2 := tF2.same s2x
  have S4 : Same H4 Hx2 := (((s5.trans s6).trans s7).trans s1x).trans s2x
  -- the numbers of all pieces
  have hc1000 : ∀ y : Wd, (∀ c ∈ y, c ∈ sg) → ∀ c ∈ y, c < 1000 := fun y h c hc => Nat.lt_of_le_of_lt (gs.2.2 c (h c hc)).2 (by decide)
  have hyc := hc1000 y eyin
  have hzc := hc1000 z hz
  refine ⟨_, rfl, _, rfl, k, y, rfl, k1, by omega, by omega, fun a3 xs3 H8 s8 tF3 => ⟨a3, xs3, rfl, .inr tF3.seq, fun l3 hl3 => ?_⟩⟩
  have s9 := same_new hl3 (.lst xs3)
  have dl : Dt (upd H8 l3 (.lst xs3)) (fun _ => True) (.ref l3) (listD (fun p => (often k y p : Int)) (asc (wins k y))) := by
    obtain ⟨o3, _, _, dA⟩ := tF3.same s9
    exact .lst upd_same trivial (dA.mono (fun _ _ _ e => e) fun _ _ _ _ => trivial)
  generalize upd H8 l3 (.lst xs3) = H9 at s9 dl ⊢
  refine ⟨_, rfl, _, rfl, k, z, rfl, k1, by omega, by omega, fun a4 xs4 H10 s10 tF4 => ?_⟩
  have s80 := (s8.trans s9).trans s10
  have la : ∀ w : Wd, w.length ≤ 500 → (asc (wins k w)).length ≤ 1000 := fun w hw => by
    have := asc_length_le (wins k w)
    rw [wins_length] at this
    omega
  have ls1' : (stretch k a z).length ≤ 500 := by have := stretch_length k a z; omega
  have ls2' : (stretch k a y).length ≤ 500 := by have := stretch_length k a y; omega
  refine ⟨_, rfl, _, rfl, a4, a1, a2, xs4, xs1, xs2, _, _, _, _, _, _, _, _, _, rfl, tF4, tF1.same s80, tF2.same s80, up_nodup (up_asc _), up_nodup (up_asc _), up_nodup (up_asc _), fun p hp => often_zero hp, fun p hp => often_zero hp, fun p hp => often_zero hp, la _ hz5, la _ ls1', la _ ls2', ?_⟩
  intro o ho u H11 s11 d11
  have eF : (fun p => ((often k z p : Nat) : Int) - ((often k (stretch k a z) p : Nat) : Int) + ((often k (stretch k a y) p : Nat) : Int)) = fun p => ((often k y p : Nat) : Int) := funext fun p => by
    have := eoth (p := p) k1
    omega
  have eo : asc o = asc (wins k y) := asc_congr fun p => by
    rw [ho p]
    have e := congrFun eF p
    have e' : ((often k z p : Nat) : Int) - ((often k (stretch k a z) p : Nat) : Int) + ((often k (stretch k a y) p : Nat) : Int) = ((often k y p : Nat) : Int) := e
    rw [e', ← often_pos]
    omega
  rw [eo, eF] at d11
  refine ⟨_, _, listD_dp hyc (dt_same dl (s10.trans s11)), listD_dp hyc d11, listD_plain hyc _, listD_plain hyc _, _, rfl, if_fl ?_ ?_⟩
  · rw [listD_eqv hyc]
    rfl
  -- the views ahead of it, of the letter, behind it
  have S11 : Same H4 H11 := S4.trans (s80.trans s11)
  refine ⟨_, rfl, _, rfl, _, rfl, _, rfl, _, rfl, _, rfl, hy16, ?_⟩
  rw [cut_head]
  refine ⟨k, t, y.take a, rfl, k1, by omega, t1, by rw [List.length_take]; omega, fun v13 H12 s12 d13 => ?_⟩
  refine ⟨_, rfl, _, rfl, _, rfl, _, rfl, _, _, rfl, rfl, _, rfl, _, rfl, hy16, ?_⟩
  rw [ect hya]
  refine ⟨k, t, y.drop (a + 1), rfl, k1, by omega, t1, by rw [List.length_drop]; omega, fun v14 H13 s13 d14 => ⟨_, _, rfl, ?_⟩⟩
  change tSeq _ _ _ [some (.ref d), some (.ref p), some (.str (mkS sg)), some (.int k), some (.int t), some (.str (mkS z)), some (.int a), some (.str (mkS [x])), some (.str (mkS [w0])), some (.str (mkS y)), some (.int (low k a : Nat)), some (.ref a1), some (.ref a2), some v13, some v14, none, none, none] _
  have kn : ∀ w : Wd, w.length ≤ 500 → kinds k w ≤ 1000 := fun w hw => by have := kinds_le (k := k) w; omega
  have hy5 : y.length ≤ 500 := by omega
  refine ⟨_, rfl, _, rfl, _, rfl, _, rfl, _, rfl, _, rfl, _, rfl, _, rfl, k, t, [x], rfl, k1, by omega, t1, by show 1 ≤ 3000; decide, fun vx H14 s14 dvx => ?_⟩
  refine ⟨k, t, v13, vx, y.take a, [x], _, _, rfl, k1, by omega, t1, kn _ (by rw [List.length_take]; omega), kn _ (by show 1 ≤ 500; decide), dt_same d13 (s13.trans s14), dvx, fun v15a H15 s15 d15a => ?_⟩
  refine ⟨_, rfl, k, t, v15a, v14, y.take a ++ [x], y.drop (a + 1), _, _, rfl, k1, by omega, t1, kn _ (by rw [List.length_append, List.length_take]; show _ + 1 ≤ _; omega), kn _ (by rw [List.length_drop]; omega), d15a, dt_same d14 (s14.trans s15), fun v15 H16 s16 d15 => ?_⟩
  have eys : y.take a ++ [x] ++ y.drop (a + 1) = y := by
    have h := List.getElem?_eq_some_iff.mp eya
    obtain ⟨_, h2⟩ := h
    have e := List.drop_eq_getElem_cons hya
    rw [h2] at e
    rw [List.append_assoc]
    show y.take a ++ x :: y.drop (a + 1) = y
    rw [← e, List.take_append_drop]
  rw [eys] at d15
  change tSeq _ _ _ [some (.ref d), some (.ref p), some (.str (mkS sg)), some (.int k), some (.int t), some (.str (mkS z)), some (.int a), some (.str (mkS [x])), some (.str (mkS [w0])), some (.str (mkS y)), some (.int (low k a : Nat)), some (.ref a1), some (.ref a2), some v13, some v14, some v15, none, none] _
  have S16 : Same H4 H16 := S11.trans ((s12.trans s13).trans ((s14.trans s15).trans s16))
  have hk16 := hk4.same S16
  -- the view
  refine ⟨_, rfl, p, dx, _, rfl, hk16.ob, p, dx, e, sg, k, t, y, _, rfl, hk16, k1, by omega, t1, by omega, fun v1 Ha sa d1 => ?_⟩
  refine ⟨_, rfl, (by show 2 ≤ sizeLine; decide), fun la hla => ?_⟩
  have sb := same_new hla (.lst [v1, v15])
  have q1 : Dt (upd Ha la (.lst [v1, v15])) (fun _ => True) (.ref la) (twiceD k t y) := .lst upd_same trivial (.cons (dt_same (dt_all d1) sb) (.cons (dt_same (dt_all d15) (sa.trans sb)) .nil))
  have sh := shows_twice (t := t) hyc k8 (show y.length ≤ 2000 by omega)
  generalize upd Ha la (.lst [v1, v15]) = Hb at sb q1 ⊢
  refine ⟨_, _, rfl, q1, sh, ?_⟩
  refine ⟨_, rfl, _, rfl, _, rfl, k, t, y, rfl, k1, by omega, t1, by omega, fun v2 Hc sc d2 => ?_⟩
  refine ⟨(by show 1 ≤ sizeLine; decide), fun lb hlb => ?_⟩
  have sd := same_new hlb (.lst [v2])
  have ed : upd Hc lb (.lst [v2]) lb = some (.lst [v2]) := upd_same
  generalize upd Hc lb (.lst [v2]) = Hd at sd ed ⊢
  refine ⟨lb, 2, _, rfl, rfl, ed, by decide, by decide, (by show 1 * 2 ≤ sizeLine; decide), fun lc' hlc => ?_⟩
  have se := same_new hlc (.lst (List.replicate (2 : Int).toNat [v2]).flatten)
  have q2 : Dt (upd Hd lc' (.lst (List.replicate (2 : Int).toNat [v2]).flatten)) (fun _ => True) (.ref lc') (twiceD k t y) := .lst (xs := [v2, v2]) upd_same trivial (.cons (dt_same (dt_all d2) (sd.trans se)) (.cons (dt_same (dt_all d2) (sd.trans se)) .nil))
  generalize upd Hd lc' (.lst (List.replicate (2 : Int).toNat [v2]).flatten) = He at se q2 ⊢
  refine ⟨_, _, rfl, q2, sh, rfl, _, rfl, if_fl (by simp) ?_⟩
  have Se : Same H4 He := S16.trans (sa.trans (sb.trans (sc.trans (sd.trans se))))
  have hke := hk4.same Se
  have hDe := hD4.same Se
  have Ke : Keep4 d g p e H He := K4.trans (.sm Se)
  clear tF1 tF2 tF3 tF4 d11 dl q1 q2
  -- back
  unfold tNext
  dsimp only
  apply seq_ways (A := fun σ' H' => ∃ ws : List Wd, σ' = [some (.ref d), some (.ref p), some (.str (mkS sg)), some (.int k), some (.int t), some (.str (mkS z)), some (.int a), some (.str (mkS [x])), some (.str (mkS [w0])), some (.str (mkS y)), some (.int (low k a : Nat)), some (.ref a1), some (.ref a2), some v13, some v14, some v15, none, none] ∧
    ws.length ≤ zs.length + 4 ∧ KeptAt C H' p dx e sg k t z ws ∧ DeckAt (c + 3) H' d g ∧ Keep4 d g p e H H')
  case f =>
    intro rest
    refine ⟨_, rfl, d, g, 2, c + 2, rfl, by decide, by decide, hDe, by omega, fun r6 H6 r60 r61 hD6 kk6 => ⟨rfl, _, rfl, ?_⟩⟩
    have hk6 := hke.keep kk6 m1 m2 m3 m4
    have K6 := Ke.trans (.dg kk6)
    refine ite2 (fun _ => ?_) (fun _ => ?_)
    · refine ⟨_, rfl, p, dx, _, rfl, hk6.ob, rfl, p, dx, e, sg, k, t, y, z.take a ++ z.drop (a + 1), zs ++ [z], rfl, hk6, fun H7 hk7 kk7 => ?_⟩
      refine ⟨_, rfl, p, dx, _, rfl, hk7.ob, rfl, p, dx, e, sg, k, t, _, z, zs, rfl, hk7, fun H8 hk8 kk8 => ?_⟩
      exact rest _ _ ⟨zs, rfl, by omega, hk8, ((hD6.keep kk7 m1 m2 m3 m4).keep kk8 m1 m2 m3 m4), (K6.trans (.pe kk7)).trans (.pe kk8)⟩
    · have l2 : (zs ++ [z] ++ [z.take a ++ z.drop (a + 1)]).length ≤ 100000 := by rw [List.length_append, List.length_append]; show zs.length + 1 + 1 ≤ _; omega
      refine ⟨_, rfl, p, dx, _, rfl, hk6.ob, rfl, _, rfl, _, rfl, _, _, rfl, rfl, p, dx, e, sg, k, t, y, _, a, a + 1, rfl, hk6, l2, y5, by omega, by omega, fun H7 hk7 kk7 => ?_⟩
      have l3 : (zs ++ [z] ++ [z.take a ++ z.drop (a + 1)] ++ [y]).length ≤ 100000 := by rw [List.length_append, List.length_append, List.length_append]; show zs.length + 1 + 1 + 1 ≤ _; omega
      have lcy : (y.take a ++ y.drop (a + 1)).length ≤ 100000 := by rw [List.length_append, List.length_take, List.length_drop]; omega
      have lhy : (y.take a).length = a := by rw [List.length_take]; omega
      refine ⟨_, rfl, p, dx, _, rfl, hk7.ob, rfl, _, rfl, _, rfl, p, dx, e, sg, k, t, y.take a ++ y.drop (a + 1), _, a, [w0], rfl, hk7, l3, lcy, by rw [List.length_append, lhy]; omega, fun c hc => by rw [List.mem_singleton.mp hc]; exact w0in, by show 1 ≤ 100000; decide, fun H8 hk8 kk8 => ?_⟩
      have ez : (y.take a ++ y.drop (a + 1)).take a ++ [w0] ++ (y.take a ++ y.drop (a + 1)).drop a = z := by
        rw [List.take_append_of_le_length (by omega), List.take_take, Nat.min_self, List.drop_append_of_le_length (by omega), List.drop_eq_nil_of_le (by omega), List.nil_append]
        exact eyset
      rw [ez] at hk8
      exact rest _ _ ⟨_, rfl, by rw [List.length_append, List.length_append, List.length_append, List.length_append]; show zs.length + 1 + 1 + 1 + 1 ≤ _; omega, hk8, ((hD6.keep kk7 m1 m2 m3 m4).keep kk8 m1 m2 m3 m4), (K6.trans (.pe kk7)).trans (.pe kk8)⟩
  case r =>
    rintro σ' H6 ⟨ws, rfl, lw, hk6, hD6, K6⟩
    refine ⟨_, rfl, p, dx, _, rfl, hk6.ob, p, dx, e, sg, k, t, z, ws, rfl, hk6, ?_⟩
    refine ⟨_, rfl, p, dx, _, rfl, hk6.ob, p, dx, e, sg, k, t, z, ws, rfl, hk6, k1, by omega, t1, by omega, fun v1' Hf sf d1' => ?_⟩
    refine ⟨(by show 2 ≤ sizeLine; decide), fun lf hlf => ?_⟩
    have sg' := same_new hlf (.lst [.str (mkS z), v1'])
    have q1 : Dt (upd Hf lf (.lst [.str (mkS z), v1'])) (fun _ => True) (.ref lf) (twoD k t z) := dt_two upd_same (dt_same (dt_all d1') sg')
    have sh2 := shows_two (t := t) hzc k8 (show z.length ≤ 2000 by omega)
    generalize upd Hf lf (.lst [.str (mkS z), v1']) = Hg at sg' q1 ⊢
    refine ⟨_, _, rfl, q1, sh2, ?_⟩
    refine ⟨_, rfl, _, rfl, _, rfl, _, rfl, k, t, z, rfl, k1, by omega, t1, by omega, fun v2' Hh sh' d2' => ?_⟩
    refine ⟨(by show 2 ≤ sizeLine; decide), fun lg hlg => ?_⟩
    have si := same_new hlg (.lst [.str (mkS z), v2'])
    have q2 : Dt (upd Hh lg (.lst [.str (mkS z), v2'])) (fun _ => True) (.ref lg) (twoD k t z) := dt_two upd_same (dt_same (dt_all d2') si)
    generalize upd Hh lg (.lst [.str (mkS z), v2']) = Hi at si q2 ⊢
    refine ⟨_, _, rfl, q2, sh2, rfl, ?_⟩
    have Si : Same H6 Hi := (sf.trans sg').trans (sh'.trans si)
    refine (show ∀ b : Bool, b = true → Q (.bl true) Hi → Q (.bl b) Hi from fun b e h => e ▸ h) _ (decide_eq_true rfl) ?_
    exact q ws _ lw (hk6.same Si) (hD6.same Si) (K6.trans (.sm Si))
end
end Vf

set_option Elab.async false
set_option linter.all false
set_option maxRecDepth 100000
set_option maxHeartbeats 1000000
namespace Vf
open PySem PySem.Spec PyProof.Rows L2 L2.Vx Vs Vm Vd
abbrev sRight : Stmt := top 30
abbrev sLaw : Stmt := top 31
/-! ### six letters put otherwise; the law -/
def spRight : Sp := fun vs H Q _ => ∃ (d g : Addr) (c : Nat), vs = [.ref d] ∧ DeckAt c H d g ∧ c + 200 ≤ most ∧ ∀ H', DeckAt (c + 200) H' d g → Q (.bl true) H'
theorem len_right : ∀ vs H Q E, spRight vs H Q E → vs.length = (["_law_deck_here"] : List Str).length := fun vs H Q E ⟨_, _, _, e, _⟩ => by
  rw [e]; rfl
structure TxtZ (mg : Str → Option Value) (C fW fU fZ fD fT : Addr) : Prop extends TxtW mg fW fU where
  size : mg "_law_size" = some (.ref fZ)
  word : mg "_law_word" = some (.ref fD)
  turn : mg "_law_turn_right" = some (.ref fT)
  kept : mg "Kept" = some (.ref C)
  rep : mg "repr" = none
structure TxtL (mg : Str → Option Value) (fK fR : Addr) : Prop where
  deck : mg "_law_deck" = some (.ref fK)
  right : mg "_law_right" = some (.ref fR)
  range : mg "range" = none
def spLaw (K : PySem.W.Frag) : Sp := fun vs H Q _ => ∃ (a : Addr) (ns : List Int), vs = [.ref a] ∧ SqL K H a (ns.map V.int) ∧ ns.length ≤ 63 ∧ ∀ H', Q (.bl true) H'
section
variable {P : Program} {w : World} {K : PySem.W.Frag} {mg : Str → Option Value} {base : Heap} {C : Addr}
abbrev nRight : List Str := ["_law_deck_here", "_law_signs", "_law_k", "_law_t", "_law_word_here", "_law_here", "_law_mate", "_law_kept", "_law_go"]
theorem scRight : FnScope nRight ["_law_deck_here"] (defScope sRight) := ⟨rfl, rfl, rfl, by decide +kernel, rfl, by decide +kernel, by decide +kernel⟩
theorem ok_right {f fW fU fZ fD fT fK fX fV fL fP aX aV : Addr} {fd fdW fdZ fdD fdT fdK fdX fdV fdL fdP : FuncData} (F : Fun K "_law_right" "_law_right" sRight f fd) (TK : TxtK K mg C) (T : TxtZ mg C fW fU fZ fD fT)
    (GW : FnOk P w K mg base CX0 1 fW fdW ["_law_deck_here", "_law_span"] spDraw) (bW : Binds K fdW ["_law_deck_here", "_law_span"] []) (kW : PySem.W.keepIn K (.ref fW) = true)
    (GZ : FnOk P w K mg base CX0 3 fZ fdZ ["_law_deck_here"] spSize) (bZ : Binds K fdZ ["_law_deck_here"] []) (kZ : PySem.W.keepIn K (.ref fZ) = true)
    (GD : FnOk P w K mg base CX0 3 fD fdD ["_law_deck_here", "_law_signs", "_law_most"] spWord) (bD : Binds K fdD ["_law_deck_here", "_law_signs", "_law_most"] []) (kD : PySem.W.keepIn K (.ref fD) = true)
    (GT : FnG P w K mg base 6 fT fdT ["_law_deck_here", "_law_here", "_law_signs", "_law_k", "_law_t"] (spTurn C)) (bT : Binds K fdT ["_law_deck_here", "_law_here", "_law_signs", "_law_k", "_law_t"] []) (kT : PySem.W.keepIn K (.ref fT) = true)
    (M : Mk K C fK) (GK : FnOk P w K mg base CX0 2 fK fdK ["self", "letters", "width", "top", "text"] (spKInit C)) (b5 : Binds K fdK ["self", "letters", "width", "top", "text"] [])
    (GX : FnOk P w K mg base CX0 1 fX fdX ["self"] (spKText C)) (bX : Binds K fdX ["self"] []) (pX : PropOf K C "text" aX fX)
    (GV : FnOk P w K mg base CX0 4 fV fdV ["self"] (spKView C)) (bV : Binds K fdV ["self"] []) (pV : PropOf K C "view" aV fV)
    (GL : FnOk P w K mg base CX0 1 fL fdL ["self"] (spKLen C)) (bL : Binds K fdL ["self"] []) (mL : Meth K C "__len__" fL)
    (GP : FnOk P w K mg base CX0 4 fP fdP ["self", "place", "text"] (spKPut C)) (bP : Binds K fdP ["self", "place", "text"] []) (mP : Meth K C "put" fP) :
    FnG P w K mg base 7 f fd ["_law_deck_here"] spRight := by
  refine FunG F scRight len_right (fun cdv A outer s H vs Q E hr hg h => ?_)
  obtain ⟨d, g, c, rfl, hD, hc, q⟩ := h
  have hr1 : Room 1 _ := hr.mono (by decide)
  have hr2 : Room 2 _ := hr.mono (by decide)
  have hr3 : Room 3 _ := hr.mono (by decide)
  have hr4 : Room 4 _ := hr.mono (by decide)
  have hr5 : Room 5 _ := hr.mono (by decide)
  have hu : (A.deeper (envOfC "_law_right" (defScope sRight) s.heap.objs.size f cdv)).units + 100 < cLine := by
    have z := hr.un
    omega
  refine ⟨_, (pss_cons (ps_asg (pe_call GZ hr3 rfl T.size kZ bZ .nil pass0 (pa_cons (pv 0) pa_nil)) (pg_tup rfl (pgs_cons (pg_name (i := 1) scRight.nd rfl (Or.inl rfl)) (pgs_cons (pg_name (i := 2) scRight.nd rfl (Or.inl rfl)) pgs_nil))))
    (pss_cons (ps_par (i := 3) (j := 4) rfl scRight.nd rfl rfl (by decide) rfl rfl (pa_cons (pe_op op_add pe_int (pe_call GW hr1 rfl T.draw kW bW .nil pass0 (pa_cons (pv 0) (pa_cons pe_int pa_nil)))) (pa_cons (pe_op op_add_str (pe_call GD hr3 rfl T.word kD bD .nil pass0 (pa_cons (pv 0) (pa_cons (pv 1) (pa_cons pe_int pa_nil)))) (pv 1)) pa_nil)) (by rfl))
    (pss_cons (ps_par (i := 5) (j := 6) rfl scRight.nd rfl rfl (by decide) rfl rfl (pa_cons (pe_make M GK hr3 (by rfl) T.kept b5 .nil pass0 (pa_cons (pv 1) (pa_cons (pv 2) (pa_cons (pv 3) (pa_cons (pv 4) pa_nil))))) (pa_cons (pe_make M GK hr3 (by rfl) T.kept b5 .nil pass0 (pa_cons (pv 1) (pa_cons (pv 2) (pa_cons (pv 3) (pa_cons (pe_revS (pv 4)) pa_nil))))) pa_nil)) (by rfl))
    (pss_cons (ps_set (i := 7) scRight.nd rfl (Or.inl rfl) (pe_callB (call_rep hg hu (fun _ => True)) (by rfl) T.rep (by decide +kernel) (pa_cons (pe_lst (pa_cons (pe_prop (pv 6) TK.cl pX GX hr2 bX .nil pass0 rfl) (pa_cons (pe_prop (pv 6) TK.cl pV GV hr5 bV .nil pass0 rfl) pa_nil))) pa_nil)))
    (pss_cons (ps_for PassesOwn.never rfl (pi_range1 rfl T.range (pa_cons pe_int pa_nil)) (pg_name (i := 8) scRight.nd rfl (Or.inl rfl)) (pss_cons (ps_if (pt_not (pt_val (pe_callG GT len_turn hg hr rfl T.turn kT bT .nil pass0 (pa_cons (pv 0) (pa_cons (pv 5) (pa_cons (pv 1) (pa_cons (pv 2) (pa_cons (pv 3) pa_nil)))))))) (pss_one (ps_ret pe_bl)) pss_nil)
    (pss_one (ps_expr (pe_meth (pv 5) TK.cl mP GP hr4 bP .nil pass0 (pa_cons (pe_call GW hr1 rfl T.draw kW bW .nil pass0 (pa_cons (pv 0) (pa_cons (pe_op op_add (pe_callB (call_lenO mL GL hr2 bL .nil pass0) (by rfl) T.len PySem.boot_len (pa_cons (pv 5) pa_nil)) pe_int) pa_nil))) (pa_cons (pe_call GD hr3 rfl T.word kD bD .nil pass0 (pa_cons (pv 0) (pa_cons (pv 1) (pa_cons pe_int pa_nil)))) pa_nil)))))))
    (pss_one (ps_ret (pe_cmpR op_eq (pe_callB (call_rep hg hu (fun _ => True)) (by rfl) T.rep (by decide +kernel) (pa_cons (pe_lst (pa_cons (pe_prop (pv 6) TK.cl pX GX hr2 bX .nil pass0 rfl) (pa_cons (pe_prop (pv 6) TK.cl pV GV hr5 bV .nil pass0 rfl) pa_nil))) pa_nil)) (pv 7) (nomark _))))))))), ?_⟩
  refine ⟨_, rfl, d, g, c, rfl, hD, by omega, fun sg k pr H1 gs k1 k8 hp hD1 kk1 => ?_⟩
  refine ⟨pr, _, rfl, SqT.of hp, rfl, _, _, rfl, _, _, rfl, rfl, ?_⟩
  refine ⟨_, rfl, d, g, 20, c + 2, rfl, by decide, by decide, hD1, by omega, fun rt H2 rt0 rt1 hD2 kk2 => ⟨_, _, rfl, rfl, ?_⟩⟩
  obtain ⟨tn, rfl⟩ : ∃ tn : Nat, rt = (tn : Int) := ⟨rt.toNat, by omega⟩
  rw [show (fun (i j : Int) => V.int (i + j)) (1 : Int) (tn : Int) = V.int ((tn + 1 : Nat) : Int) from congrArg V.int (by omega)]
  have t1 : 1 ≤ tn + 1 := by omega
  generalize tn + 1 = t at t1
  refine ⟨_, rfl, _, rfl, d, g, sg, 30, c + 3, rfl, gs, by decide, by decide, hD2, by omega, fun z0 H3 hzl hz0 hD3 kk3 => ?_⟩
  have sg4 := gs.2.1
  have sg1 := gs.1
  refine ⟨_, rfl, _, _, rfl, rfl, ?_, ?_⟩
  · rw [mkS_length, mkS_length, sizeLine_eq]
    omega
  rw [mkS_append]
  have hz : ∀ c ∈ z0 ++ sg, c ∈ sg := fun c hc => (List.mem_append.mp hc).elim (hz0 c) id
  have hzl1 : 1 ≤ (z0 ++ sg).length := by rw [List.length_append]; omega
  have hzl2 : (z0 ++ sg).length ≤ 34 := by rw [List.length_append]; omega
  generalize z0 ++ sg = z at hz hzl1 hzl2
  refine ⟨_, _, rfl, ?_⟩
  have c1000 : ∀ y : Wd, (∀ c ∈ y, c ∈ sg) → ∀ c ∈ y, c < 1000 := fun y h c hc => Nat.lt_of_le_of_lt (gs.2.2 c (h c hc)).2 (by decide)
  generalize hc3 : c + 3 + 30 + 8 = c3 at hD3
  refine ⟨_, rfl, _, rfl, _, rfl, _, rfl, fun p dx hp hdx nx => ⟨p, dx, sg, k, t, z, rfl, upd_same, hz, by omega, fun e H5 hk he keep => ⟨rfl, ?_⟩⟩⟩
  have s35 := made_same hp hdx keep
  have he3 := made_none hp hdx he
  have op := hD3.dn hp
  have oe := hD3.dn he3
  have hD5 := hD3.same s35
  have hzr : ∀ c ∈ z.reverse, c ∈ sg := fun c hc => hz c (List.mem_reverse.mp hc)
  have hzrl : z.reverse.length ≤ 34 := by rw [List.length_reverse]; exact hzl2
  refine ⟨_, rfl, _, rfl, _, rfl, _, rfl, z, rfl, by rw [sizeLine_eq]; omega, fun p2 dx2 hp2 hdx2 nx2 => ⟨p2, dx2, sg, k, t, z.reverse, rfl, upd_same, hzr, by omega, fun e2 H6 hk2 he2 keep2 => ⟨rfl, ?_⟩⟩⟩
  have s56 := made_same hp2 hdx2 keep2
  have he25 := made_none hp2 hdx2 he2
  have op2 := hD5.dn hp2
  have oe2 := hD5.dn he25
  have hD6 := hD5.same s56
  have hk6 := hk.same s56
  have np2 : p2 ≠ p := (ne_of_none hk.ob hp2).symm
  have np2e : p2 ≠ e := (ne_of_none hk.er hp2).symm
  have ne2 : e2 ≠ p := (ne_of_none hk.ob he25).symm
  have ne2e : e2 ≠ e := (ne_of_none hk.er he25).symm
  generalize z.reverse = zr at hzr hzrl hk2 ⊢
  refine ⟨_, _, rfl, ?_⟩
  have sh := shows_two (t := t) (c1000 zr hzr) k8 (show zr.length ≤ 2000 by omega)
  refine ⟨_, rfl, p2, dx2, _, rfl, hk2.ob, p2, dx2, e2, sg, k, t, zr, [], rfl, hk2, ?_⟩
  refine ⟨_, rfl, p2, dx2, _, rfl, hk2.ob, p2, dx2, e2, sg, k, t, zr, [], rfl, hk2, k1, by omega, t1, by omega, fun v1 Ha sa d1 => ?_⟩
  refine ⟨(by show 2 ≤ sizeLine; decide), fun la hla => ?_⟩
  have sb := same_new hla (.lst [.str (mkS zr), v1])
  have q1 : Dt (upd Ha la (.lst [.str (mkS zr), v1])) (fun _ => True) (.ref la) (twoD k t zr) := dt_two upd_same (dt_same (dt_all d1) sb)
  generalize upd Ha la (.lst [.str (mkS zr), v1]) = Hb at sb q1 ⊢
  refine ⟨_, _, rfl, q1, sh, ?_⟩
  have sAB := sa.trans sb
  have hkb := hk6.same sAB
  have hk2b := hk2.same sAB
  have hDb := hD6.same sAB
  generalize hdue : (twoD k t zr).shown = due
  refine ⟨_, rfl, by decide, by decide, for_range (lo := 0) (n := 6) (fun i σ H' => ∃ (y : Wd) (zs : List Wd) (v8 : Option V), σ = [some (.ref d), some (.str (mkS sg)), some (.int k), some (.int t), some (.str (mkS z)), some (.ref p), some (.ref p2), some (.str due), v8] ∧
    (∀ c ∈ y, c ∈ sg) ∧ 1 ≤ y.length ∧ y.length ≤ 34 + 3 * i ∧ zs.length ≤ 5 * i ∧ KeptAt C H' p dx e sg k t y zs ∧ KeptAt C H' p2 dx2 e2 sg k t zr [] ∧ DeckAt (c3 + 20 * i) H' d g) ⟨z, [], none, rfl, hz, hzl1, by omega, Nat.le_refl _, hkb, hk2b, hDb⟩ ?_ ?_⟩
  · rintro i σ H' hi ⟨y, zs, v8, rfl, hy, hy1, hyl, hzs, h1, h2, h3⟩
    refine ⟨_, rfl, _, rfl, _, rfl, _, rfl, _, rfl, d, g, p, dx, e, sg, k, t, y, zs, _, rfl, h3, by omega, h1, ⟨op.1, op.2, oe.1, oe.2⟩, gs, hy, hy1, by omega, by omega, k1, k8, t1, fun ws H7 hws h1' h3' k4 => ⟨_, rfl, if_fl rfl ?_⟩⟩
    have h2' : KeptAt C H7 p2 dx2 e2 sg k t zr [] := ⟨k4 _ _ op2.1 op2.2 np2 np2e h2.ob, k4 _ _ oe2.1 oe2.2 ne2 ne2e h2.er⟩
    refine ⟨_, rfl, p, dx, _, rfl, h1'.ob, rfl, ?_⟩
    refine ⟨_, rfl, _, rfl, p, dx, _, rfl, h1'.ob, p, dx, e, sg, k, t, y, ws, rfl, h1', by omega, _, rfl, by omega, by omega, _, _, rfl, rfl, d, g, _, _, rfl, by omega, by omega, h3', by omega, fun r H8 r0 r1 hD8 k8' => ?_⟩
    obtain ⟨rn, rfl⟩ : ∃ rn : Nat, r = (rn : Int) := ⟨r.toNat, by omega⟩
    refine ⟨_, rfl, _, rfl, d, g, sg, 3, _, rfl, gs, by decide, by decide, hD8, by omega, fun x H9 hxl hx hD9 k9 => ?_⟩
    have h19 := h1'.keep (k8'.trans k9) op.1 op.2 oe.1 oe.2
    have h29 := h2'.keep (k8'.trans k9) op2.1 op2.2 oe2.1 oe2.2
    refine ⟨p, dx, e, sg, k, t, y, ws, rn, x, rfl, h19, by omega, by omega, by omega, hx, by omega, fun H10 hk10 k10 => ?_⟩
    refine ⟨_, _, _, rfl, fun c hc => ?_, ?_, ?_, ?_, hk10, ⟨k10 _ _ np2 np2e h29.ob, k10 _ _ ne2 ne2e h29.er⟩, (hD9.keep k10 op.1 op.2 oe.1 oe.2).le (by omega)⟩
    · rcases List.mem_append.mp hc with h | h
      · rcases List.mem_append.mp h with h | h
        · exact hy c (List.mem_of_mem_take h)
        · exact hx c h
      · exact hy c (List.mem_of_mem_drop h)
    · rw [List.length_append, List.length_append, List.length_take, List.length_drop]
      omega
    · rw [List.length_append, List.length_append, List.length_take, List.length_drop]
      omega
    · rw [List.length_append]
      show _ + 1 ≤ _
      omega
  · rintro σ H' ⟨y, zs, v8, rfl, hy, hy1, hyl, hzs, h1, h2, h3⟩
    refine ⟨_, rfl, p2, dx2, _, rfl, h2.ob, p2, dx2, e2, sg, k, t, zr, [], rfl, h2, ?_⟩
    refine ⟨_, rfl, p2, dx2, _, rfl, h2.ob, p2, dx2, e2, sg, k, t, zr, [], rfl, h2, k1, by omega, t1, by omega, fun v1' Hf sf d1' => ?_⟩
    refine ⟨(by show 2 ≤ sizeLine; decide), fun lf hlf => ?_⟩
    have sg' := same_new hlf (.lst [.str (mkS zr), v1'])
    have q1 : Dt (upd Hf lf (.lst [.str (mkS zr), v1'])) (fun _ => True) (.ref lf) (twoD k t zr) := dt_two upd_same (dt_same (dt_all d1') sg')
    generalize upd Hf lf (.lst [.str (mkS zr), v1']) = Hg at sg' q1 ⊢
    refine ⟨_, _, rfl, q1, sh, _, rfl, rfl, ?_⟩
    rw [hdue]
    refine (show ∀ b : Bool, b = true → Q (.bl true) Hg → Q (.bl b) Hg from fun b e h => e ▸ h) _ (decide_eq_true rfl) ?_
    exact q _ ((h3.same (sf.trans sg')).le (by omega))
theorem scLaw : FnScope ["_law_script", "_law_deck_here", "_law_go"] ["_law_script"] (defScope sLaw) := ⟨rfl, rfl, rfl, by decide +kernel, rfl, by decide +kernel, by decide +kernel⟩
theorem ok_law {f fK fR : Addr} {fd fdK fdR : FuncData} (F : Fun K "law" "law" sLaw f fd) (T : TxtL mg fK fR)
    (GK : FnOk P w K mg base CX0 1 fK fdK ["_law_script"] (spDeck K)) (bK : Binds K fdK ["_law_script"] []) (kK : PySem.W.keepIn K (.ref fK) = true)
    (GR : FnG P w K mg base 7 fR fdR ["_law_deck_here"] spRight) (bR : Binds K fdR ["_law_deck_here"] []) (kR : PySem.W.keepIn K (.ref fR) = true) :
    FnG P w K mg base (7 + 1) f fd ["_law_script"] (spLaw K) := by
  refine FunG F scLaw (fun vs H Q E h => ?_) (fun cdv A outer s H vs Q E hr hg h => ?_)
  · obtain ⟨a, ns, rfl, _⟩ := h
    rfl
  obtain ⟨a, ns, rfl, hS, h63, k⟩ := h
  have hr1 : Room 1 _ := hr.mono (by decide)
  refine ⟨_, pss_cons (ps_set (i := 1) scLaw.nd rfl (Or.inl rfl) (pe_call GK hr1 rfl T.deck kK bK .nil pass0 (pa_cons (pv 0) pa_nil)))
    (pss_cons (ps_for PassesOwn.never rfl (pi_range1 rfl T.range (pa_cons pe_int pa_nil)) (pg_name (i := 2) scLaw.nd rfl (Or.inl rfl))
      (pss_one (ps_if (pt_not (pt_val (pe_callG GR len_right hg hr rfl T.right kR bR .nil pass0 (pa_cons (pv 1) pa_nil)))) (pss_one (ps_ret pe_bl)) pss_nil)))
    (pss_one (ps_ret pe_bl))), ?_⟩
  refine ⟨_, rfl, a, ns, rfl, hS, h63, fun d g H1 s1 nd ng hD1 => ?_⟩
  refine ⟨4, rfl, by decide, by decide, for_range (lo := 0) (n := 4) (fun i σ H' => ∃ v2, σ = [some (.ref a), some (.ref d), v2] ∧ DeckAt (200 * i) H' d g) ⟨none, rfl, hD1⟩ ?_ ?_⟩
  · rintro i σ H' hi ⟨v2, rfl, hD'⟩
    refine ⟨_, rfl, d, g, _, rfl, hD', (by unfold most; omega), fun H2 hD2 => ⟨_, rfl, ?_⟩⟩
    exact ⟨_, rfl, hD2.le (by omega)⟩
  · rintro σ H2 ⟨v2, rfl, hD2⟩
    exact k H2
end
end Vf

set_option Elab.async false
set_option linter.all false
set_option maxRecDepth 100000
set_option maxHeartbeats 4000000
namespace L2
namespace Vx
open PySem PySem.Spec PyProof.Rows _root_.Vx
/-! ### what the top has written of a class over Exception -/
def clsOk (K : PySem.W.Frag) (C : Addr) : Bool :=
  PySem.W.findIn K (.ref C) "__setattr__" == some (some (.builtin "object.__setattr__")) && (PySem.W.findIn K (.ref C) "__getattribute__" == some (some (.builtin "BaseException.__getattribute__")) && (PySem.W.findIn K (.ref C) "__getattr__" == some none &&
  (PySem.W.findIn K (.ref C) "__class__" == some (some (.builtin "object.__class__")) && (PySem.W.specialIn K (.builtin "object.__class__") "__get__" == some (some (.builtin "getset_descriptor.__get__")) && (PySem.W.takesIn K (.builtin "object.__class__") == some true &&
  (PySem.W.mroIn K C (.type "object") == some true && (PySem.W.subIn K (.ref C) (.type "BaseException") == some true && (PySem.W.typeIn K (.ref C) == some (.type "type") && (PySem.W.hasDictIn K C && PySem.W.keepIn K (.ref C))))))))))
theorem oexE_of {K : PySem.W.Frag} {C CP : Addr} {nm q : Str} {N : Addr} {bs : List Value} {sn : List Str} {sub : List Value} {ab : Bool} {col : Option Bool} {dd : Option Addr} {k0 k1 k2 k3 k5 : Option Value}
    (x : K.lookup C = some (excClassObj nm q C N bs [.ref CP, .type "Exception", .type "BaseException", .type "object"] true sn sub ab col dd k0 k1 k2 k3 k5 "Exception.__new__")) (h : clsOk K C = true) : OexE K C := by
  unfold clsOk at h
  obtain ⟨h1, h⟩ := Bool.and_eq_true_iff.mp h
  obtain ⟨h2, h⟩ := Bool.and_eq_true_iff.mp h
  obtain ⟨h3, h⟩ := Bool.and_eq_true_iff.mp h
  obtain ⟨h4, h⟩ := Bool.and_eq_true_iff.mp h
  obtain ⟨h5, h⟩ := Bool.and_eq_true_iff.mp h
  obtain ⟨h6, h⟩ := Bool.and_eq_true_iff.mp h
  obtain ⟨h7, h⟩ := Bool.and_eq_true_iff.mp h
  obtain ⟨h8, h⟩ := Bool.and_eq_true_iff.mp h
  obtain ⟨h9, h⟩ := Bool.and_eq_true_iff.mp h
  obtain ⟨h10, h11⟩ := Bool.and_eq_true_iff.mp h
  exact ⟨⟨nm, q, N, bs, _, sn, sub, ab, col, dd, k0, k1, k2, k3, k5, x, by rfl⟩, eq_of_beq h1, eq_of_beq h2, eq_of_beq h3, eq_of_beq h4, eq_of_beq h5, eq_of_beq h6, eq_of_beq h7, eq_of_beq h8, eq_of_beq h9, h10, h11⟩
end Vx
end L2

set_option Elab.async false
set_option linter.all false
set_option maxRecDepth 100000
set_option maxHeartbeats 4000000
namespace Vf
open PySem PySem.Spec PyProof.Rows L2 L2.Vx
section
variable {P : Program} {w : World} {K : PySem.W.Frag} {mg : Str → Option Value} {base : Heap}
theorem all_mk {l : PySem.W.OpenLaw} {h : Heap} {fa : Addr} (X : K.In h) (G : h.Ns mainGlobals mg) (hfa : mg "law" = some (.ref fa))
    {fH : Addr} {ocH : Value} {odH anH : Option Addr} {slH : Array (Option Value)} {kVH dcH pmH cdH ctH : Value} {fI : Addr} {ocI : Value} {odI anI : Option Addr} {slI : Array (Option Value)} {kVI dcI pmI cdI ctI : Value} {fE : Addr} {ocE : Value} {odE anE : Option Addr} {slE : Array (Option Value)} {kVE dcE pmE cdE ctE : Value} {fA : Addr} {ocA : Value} {odA anA : Option Addr} {slA : Array (Option Value)} {kVA dcA pmA cdA ctA : Value} {fC : Addr} {ocC : Value} {odC anC : Option Addr} {slC : Array (Option Value)} {kVC dcC pmC cdC ctC : Value} {fM : Addr} {ocM : Value} {odM anM : Option Addr} {slM : Array (Option Value)} {kVM dcM pmM cdM ctM : Value} {fY : Addr} {ocY : Value} {odY anY : Option Addr} {slY : Array (Option Value)} {kVY dcY pmY cdY ctY : Value} {fV : Addr} {ocV : Value} {odV anV : Option Addr} {slV : Array (Option Value)} {kVV dcV pmV cdV ctV : Value} {fT : Addr} {ocT : Value} {odT anT : Option Addr} {slT : Array (Option Value)} {kVT dcT pmT cdT ctT : Value} {fJ : Addr} {ocJ : Value} {odJ anJ : Option Addr} {slJ : Array (Option Value)} {kVJ dcJ pmJ cdJ ctJ : Value} {fK : Addr} {ocK : Value} {odK anK : Option Addr} {slK : Array (Option Value)} {kVK dcK pmK cdK ctK : Value} {fW : Addr} {ocW : Value} {odW anW : Option Addr} {slW : Array (Option Value)} {kVW dcW pmW cdW ctW : Value} {fP : Addr} {ocP : Value} {odP anP : Option Addr} {slP : Array (Option Value)} {kVP dcP pmP cdP ctP : Value} {fZ : Addr} {ocZ : Value} {odZ anZ : Option Addr} {slZ : Array (Option Value)} {kVZ dcZ pmZ cdZ ctZ : Value} {fD : Addr} {ocD : Value} {odD anD : Option Addr} {slD : Array (Option Value)} {kVD dcD pmD cdD ctD : Value} {fN : Addr} {ocN : Value} {odN anN : Option Addr} {slN : Array (Option Value)} {kVN dcN pmN cdN ctN : Value} {fL : Addr} {ocL : Value} {odL anL : Option Addr} {slL : Array (Option Value)} {kVL dcL pmL cdL ctL : Value} {fU : Addr} {ocU : Value} {odU anU : Option Addr} {slU : Array (Option Value)} {kVU dcU pmU cdU ctU : Value} {fR : Addr} {ocR : Value} {odR anR : Option Addr} {slR : Array (Option Value)} {kVR dcR pmR cdR ctR : Value} {fX : Addr} {ocX : Value} {odX anX : Option Addr} {slX : Array (Option Value)} {kVX dcX pmX cdX ctX : Value} {KC : Addr} {fml : Addr} {ocml : Value} {odml anml : Option Addr} {slml : Array (Option Value)} {kVml dcml pmml cdml ctml : Value} {fmi : Addr} {ocmi : Value} {odmi anmi : Option Addr} {slmi : Array (Option Value)} {kVmi dcmi pmmi cdmi ctmi : Value} {fmp : Addr} {ocmp : Value} {odmp anmp : Option Addr} {slmp : Array (Option Value)} {kVmp dcmp pmmp cdmp ctmp : Value} {fmg : Addr} {ocmg : Value} {odmg anmg : Option Addr} {slmg : Array (Option Value)} {kVmg dcmg pmmg cdmg ctmg : Value} {fmu : Addr} {ocmu : Value} {odmu anmu : Option Addr} {slmu : Array (Option Value)} {kVmu dcmu pmmu cdmu ctmu : Value} {fmc : Addr} {ocmc : Value} {odmc anmc : Option Addr} {slmc : Array (Option Value)} {kVmc dcmc pmmc cdmc ctmc : Value} {fmn : Addr} {ocmn : Value} {odmn anmn : Option Addr} {slmn : Array (Option Value)} {kVmn dcmn pmmn cdmn ctmn : Value} {ppx : Addr} {rpx : List Value} {fpx : Addr} {ocpx : Value} {odpx anpx : Option Addr} {slpx : Array (Option Value)} {kVpx dcpx pmpx cdpx ctpx : Value} {ppv : Addr} {rpv : List Value} {fpv : Addr} {ocpv : Value} {odpv anpv : Option Addr} {slpv : Array (Option Value)} {kVpv dcpv pmpv cdpv ctpv : Value} {Dki : Addr} {ocDki : Value} {odDki : Option Addr} {nDki : Nat} {slDki : Array (Option Value)} {tkki0 tkki1 : Tok} {fki : Addr} {ocki : Value} {odki anki : Option Addr} {slki : Array (Option Value)} {kVki dcki pmki cdki ctki : Value}
    (aH : PySem.W.nsIn K mainGlobals "is_whole" = some (some (.ref fH)))
    (lH : K.lookup fH = some ⟨ocH, odH, .func (PySem.W.fnOf "is_whole" "is_whole" (defArgs sWhole) (defBody sWhole) (defScope sWhole) .none kVH dcH pmH anH cdH ctH), slH⟩)
    (cH : PySem.W.codeIn K cdH "is_whole" = true)
    (kH : PySem.W.keepIn K (.ref fH) = true)
    (aI : PySem.W.nsIn K mainGlobals "is_state" = some (some (.ref fI)))
    (lI : K.lookup fI = some ⟨ocI, odI, .func (PySem.W.fnOf "is_state" "is_state" (defArgs sState) (defBody sState) (defScope sState) .none kVI dcI pmI anI cdI ctI), slI⟩)
    (cI : PySem.W.codeIn K cdI "is_state" = true)
    (kI : PySem.W.keepIn K (.ref fI) = true)
    (aE : PySem.W.nsIn K mainGlobals "is_text" = some (some (.ref fE)))
    (lE : K.lookup fE = some ⟨ocE, odE, .func (PySem.W.fnOf "is_text" "is_text" (defArgs sText) (defBody sText) (defScope sText) .none kVE dcE pmE anE cdE ctE), slE⟩)
    (cE : PySem.W.codeIn K cdE "is_text" = true)
    (kE : PySem.W.keepIn K (.ref fE) = true)
    (aA : PySem.W.nsIn K mainGlobals "in_pairs" = some (some (.ref fA)))
    (lA : K.lookup fA = some ⟨ocA, odA, .func (PySem.W.fnOf "in_pairs" "in_pairs" (defArgs sPairs) (defBody sPairs) (defScope sPairs) .none kVA dcA pmA anA cdA ctA), slA⟩)
    (cA : PySem.W.codeIn K cdA "in_pairs" = true)
    (kA : PySem.W.keepIn K (.ref fA) = true)
    (aC : PySem.W.nsIn K mainGlobals "pieces_of" = some (some (.ref fC)))
    (lC : K.lookup fC = some ⟨ocC, odC, .func (PySem.W.fnOf "pieces_of" "pieces_of" (defArgs sPieces) (defBody sPieces) (defScope sPieces) .none kVC dcC pmC anC cdC ctC), slC⟩)
    (cC : PySem.W.codeIn K cdC "pieces_of" = true)
    (kC : PySem.W.keepIn K (.ref fC) = true)
    (aM : PySem.W.nsIn K mainGlobals "summed" = some (some (.ref fM)))
    (lM : K.lookup fM = some ⟨ocM, odM, .func (PySem.W.fnOf "summed" "summed" (defArgs sSummed) (defBody sSummed) (defScope sSummed) .none kVM dcM pmM anM cdM ctM), slM⟩)
    (cM : PySem.W.codeIn K cdM "summed" = true)
    (kM : PySem.W.keepIn K (.ref fM) = true)
    (aY : PySem.W.nsIn K mainGlobals "ended_with" = some (some (.ref fY)))
    (lY : K.lookup fY = some ⟨ocY, odY, .func (PySem.W.fnOf "ended_with" "ended_with" (defArgs sEnded) (defBody sEnded) (defScope sEnded) .none kVY dcY pmY anY cdY ctY), slY⟩)
    (cY : PySem.W.codeIn K cdY "ended_with" = true)
    (kY : PySem.W.keepIn K (.ref fY) = true)
    (aV : PySem.W.nsIn K mainGlobals "view_of" = some (some (.ref fV)))
    (lV : K.lookup fV = some ⟨ocV, odV, .func (PySem.W.fnOf "view_of" "view_of" (defArgs sView) (defBody sView) (defScope sView) .none kVV dcV pmV anV cdV ctV), slV⟩)
    (cV : PySem.W.codeIn K cdV "view_of" = true)
    (kV : PySem.W.keepIn K (.ref fV) = true)
    (aT : PySem.W.nsIn K mainGlobals "parts_of" = some (some (.ref fT)))
    (lT : K.lookup fT = some ⟨ocT, odT, .func (PySem.W.fnOf "parts_of" "parts_of" (defArgs sParts) (defBody sParts) (defScope sParts) .none kVT dcT pmT anT cdT ctT), slT⟩)
    (cT : PySem.W.codeIn K cdT "parts_of" = true)
    (kT : PySem.W.keepIn K (.ref fT) = true)
    (aJ : PySem.W.nsIn K mainGlobals "joined" = some (some (.ref fJ)))
    (lJ : K.lookup fJ = some ⟨ocJ, odJ, .func (PySem.W.fnOf "joined" "joined" (defArgs sJoined) (defBody sJoined) (defScope sJoined) .none kVJ dcJ pmJ anJ cdJ ctJ), slJ⟩)
    (cJ : PySem.W.codeIn K cdJ "joined" = true)
    (kJ : PySem.W.keepIn K (.ref fJ) = true)
    (aK : PySem.W.nsIn K mainGlobals "_law_deck" = some (some (.ref fK)))
    (lK : K.lookup fK = some ⟨ocK, odK, .func (PySem.W.fnOf "_law_deck" "_law_deck" (defArgs sDeck) (defBody sDeck) (defScope sDeck) .none kVK dcK pmK anK cdK ctK), slK⟩)
    (cK : PySem.W.codeIn K cdK "_law_deck" = true)
    (kK : PySem.W.keepIn K (.ref fK) = true)
    (aW : PySem.W.nsIn K mainGlobals "_law_draw" = some (some (.ref fW)))
    (lW : K.lookup fW = some ⟨ocW, odW, .func (PySem.W.fnOf "_law_draw" "_law_draw" (defArgs sDraw) (defBody sDraw) (defScope sDraw) .none kVW dcW pmW anW cdW ctW), slW⟩)
    (cW : PySem.W.codeIn K cdW "_law_draw" = true)
    (kW : PySem.W.keepIn K (.ref fW) = true)
    (aP : PySem.W.nsIn K mainGlobals "_law_pick" = some (some (.ref fP)))
    (lP : K.lookup fP = some ⟨ocP, odP, .func (PySem.W.fnOf "_law_pick" "_law_pick" (defArgs sPick) (defBody sPick) (defScope sPick) .none kVP dcP pmP anP cdP ctP), slP⟩)
    (cP : PySem.W.codeIn K cdP "_law_pick" = true)
    (kP : PySem.W.keepIn K (.ref fP) = true)
    (aZ : PySem.W.nsIn K mainGlobals "_law_size" = some (some (.ref fZ)))
    (lZ : K.lookup fZ = some ⟨ocZ, odZ, .func (PySem.W.fnOf "_law_size" "_law_size" (defArgs sSize) (defBody sSize) (defScope sSize) .none kVZ dcZ pmZ anZ cdZ ctZ), slZ⟩)
    (cZ : PySem.W.codeIn K cdZ "_law_size" = true)
    (kZ : PySem.W.keepIn K (.ref fZ) = true)
    (aD : PySem.W.nsIn K mainGlobals "_law_word" = some (some (.ref fD)))
    (lD : K.lookup fD = some ⟨ocD, odD, .func (PySem.W.fnOf "_law_word" "_law_word" (defArgs sWord) (defBody sWord) (defScope sWord) .none kVD dcD pmD anD cdD ctD), slD⟩)
    (cD : PySem.W.codeIn K cdD "_law_word" = true)
    (kD : PySem.W.keepIn K (.ref fD) = true)
    (aN : PySem.W.nsIn K mainGlobals "_law_seen" = some (some (.ref fN)))
    (lN : K.lookup fN = some ⟨ocN, odN, .func (PySem.W.fnOf "_law_seen" "_law_seen" (defArgs sSeen) (defBody sSeen) (defScope sSeen) .none kVN dcN pmN anN cdN ctN), slN⟩)
    (cN : PySem.W.codeIn K cdN "_law_seen" = true)
    (kN : PySem.W.keepIn K (.ref fN) = true)
    (aL : PySem.W.nsIn K mainGlobals "_law_less" = some (some (.ref fL)))
    (lL : K.lookup fL = some ⟨ocL, odL, .func (PySem.W.fnOf "_law_less" "_law_less" (defArgs sLess) (defBody sLess) (defScope sLess) .none kVL dcL pmL anL cdL ctL), slL⟩)
    (cL : PySem.W.codeIn K cdL "_law_less" = true)
    (kL : PySem.W.keepIn K (.ref fL) = true)
    (aU : PySem.W.nsIn K mainGlobals "_law_turn_right" = some (some (.ref fU)))
    (lU : K.lookup fU = some ⟨ocU, odU, .func (PySem.W.fnOf "_law_turn_right" "_law_turn_right" (defArgs sTurn) (defBody sTurn) (defScope sTurn) .none kVU dcU pmU anU cdU ctU), slU⟩)
    (cU : PySem.W.codeIn K cdU "_law_turn_right" = true)
    (kU : PySem.W.keepIn K (.ref fU) = true)
    (aR : PySem.W.nsIn K mainGlobals "_law_right" = some (some (.ref fR)))
    (lR : K.lookup fR = some ⟨ocR, odR, .func (PySem.W.fnOf "_law_right" "_law_right" (defArgs sRight) (defBody sRight) (defScope sRight) .none kVR dcR pmR anR cdR ctR), slR⟩)
    (cR : PySem.W.codeIn K cdR "_law_right" = true)
    (kR : PySem.W.keepIn K (.ref fR) = true)
    (aX : PySem.W.nsIn K mainGlobals "law" = some (some (.ref fX)))
    (lX : K.lookup fX = some ⟨ocX, odX, .func (PySem.W.fnOf "law" "law" (defArgs sLaw) (defBody sLaw) (defScope sLaw) .none kVX dcX pmX anX cdX ctX), slX⟩)
    (cX : PySem.W.codeIn K cdX "law" = true)
    (kX : PySem.W.keepIn K (.ref fX) = true)
    (aKC : PySem.W.nsIn K mainGlobals "Kept" = some (some (.ref KC)))
    (pgKC : PySem.W.plainGet K KC Str.empty = true)
    (hdKC : PySem.W.hasDictIn K KC = true)
    (poKC : PySem.W.plainOver K KC = true)
    (saKC : PySem.W.findIn K (.ref KC) "__setattr__" = some (some (.builtin "object.__setattr__")))
    (nKC_letters : PySem.W.findIn K (.ref KC) "_letters" = some none)
    (nKC_width : PySem.W.findIn K (.ref KC) "_width" = some none)
    (nKC_top : PySem.W.findIn K (.ref KC) "_top" = some none)
    (nKC_text : PySem.W.findIn K (.ref KC) "_text" = some none)
    (nKC_earlier : PySem.W.findIn K (.ref KC) "_earlier" = some none)
    (aml : PySem.W.findIn K (.ref KC) "__len__" = some (some (.ref fml)))
    (iml : PySem.W.isFn K (.ref fml) = true)
    (lml : K.lookup fml = some ⟨ocml, odml, .func (PySem.W.fnOf "__len__" "Kept.__len__" (defArgs sKLen) (defBody sKLen) (defScope sKLen) .none kVml dcml pmml anml cdml ctml), slml⟩)
    (cml : PySem.W.codeIn K cdml "Kept.__len__" = true)
    (kml : PySem.W.keepIn K (.ref fml) = true)
    (ami : PySem.W.findIn K (.ref KC) "__getitem__" = some (some (.ref fmi)))
    (imi : PySem.W.isFn K (.ref fmi) = true)
    (lmi : K.lookup fmi = some ⟨ocmi, odmi, .func (PySem.W.fnOf "__getitem__" "Kept.__getitem__" (defArgs sKItem) (defBody sKItem) (defScope sKItem) .none kVmi dcmi pmmi anmi cdmi ctmi), slmi⟩)
    (cmi : PySem.W.codeIn K cdmi "Kept.__getitem__" = true)
    (kmi : PySem.W.keepIn K (.ref fmi) = true)
    (amp : PySem.W.findIn K (.ref KC) "_check_place" = some (some (.ref fmp)))
    (imp : PySem.W.isFn K (.ref fmp) = true)
    (lmp : K.lookup fmp = some ⟨ocmp, odmp, .func (PySem.W.fnOf "_check_place" "Kept._check_place" (defArgs sKPlace) (defBody sKPlace) (defScope sKPlace) .none kVmp dcmp pmmp anmp cdmp ctmp), slmp⟩)
    (cmp : PySem.W.codeIn K cdmp "Kept._check_place" = true)
    (kmp : PySem.W.keepIn K (.ref fmp) = true)
    (amg : PySem.W.findIn K (.ref KC) "_change" = some (some (.ref fmg)))
    (img : PySem.W.isFn K (.ref fmg) = true)
    (lmg : K.lookup fmg = some ⟨ocmg, odmg, .func (PySem.W.fnOf "_change" "Kept._change" (defArgs sKChange) (defBody sKChange) (defScope sKChange) .none kVmg dcmg pmmg anmg cdmg ctmg), slmg⟩)
    (cmg : PySem.W.codeIn K cdmg "Kept._change" = true)
    (kmg : PySem.W.keepIn K (.ref fmg) = true)
    (amu : PySem.W.findIn K (.ref KC) "put" = some (some (.ref fmu)))
    (imu : PySem.W.isFn K (.ref fmu) = true)
    (lmu : K.lookup fmu = some ⟨ocmu, odmu, .func (PySem.W.fnOf "put" "Kept.put" (defArgs sKPut) (defBody sKPut) (defScope sKPut) .none kVmu dcmu pmmu anmu cdmu ctmu), slmu⟩)
    (cmu : PySem.W.codeIn K cdmu "Kept.put" = true)
    (kmu : PySem.W.keepIn K (.ref fmu) = true)
    (amc : PySem.W.findIn K (.ref KC) "cut" = some (some (.ref fmc)))
    (imc : PySem.W.isFn K (.ref fmc) = true)
    (lmc : K.lookup fmc = some ⟨ocmc, odmc, .func (PySem.W.fnOf "cut" "Kept.cut" (defArgs sKCut) (defBody sKCut) (defScope sKCut) .none kVmc dcmc pmmc anmc cdmc ctmc), slmc⟩)
    (cmc : PySem.W.codeIn K cdmc "Kept.cut" = true)
    (kmc : PySem.W.keepIn K (.ref fmc) = true)
    (amn : PySem.W.findIn K (.ref KC) "undo" = some (some (.ref fmn)))
    (imn : PySem.W.isFn K (.ref fmn) = true)
    (lmn : K.lookup fmn = some ⟨ocmn, odmn, .func (PySem.W.fnOf "undo" "Kept.undo" (defArgs sKUndo) (defBody sKUndo) (defScope sKUndo) .none kVmn dcmn pmmn anmn cdmn ctmn), slmn⟩)
    (cmn : PySem.W.codeIn K cdmn "Kept.undo" = true)
    (kmn : PySem.W.keepIn K (.ref fmn) = true)
    (apx : PySem.W.findIn K (.ref KC) "text" = some (some (.ref ppx)))
    (epx : PySem.W.specialIn K (.ref ppx) "__get__" = some (some (.builtin "property.__get__")))
    (tpx : PySem.W.takesIn K (.ref ppx) = some true)
    (r_px : PySem.W.recIn K ppx "property" = some (.ref fpx :: rpx))
    (lpx : K.lookup fpx = some ⟨ocpx, odpx, .func (PySem.W.fnOf "text" "Kept.text" (defArgs sKText) (defBody sKText) (defScope sKText) .none kVpx dcpx pmpx anpx cdpx ctpx), slpx⟩)
    (cpx : PySem.W.codeIn K cdpx "Kept.text" = true)
    (kpx : PySem.W.keepIn K (.ref fpx) = true)
    (apv : PySem.W.findIn K (.ref KC) "view" = some (some (.ref ppv)))
    (epv : PySem.W.specialIn K (.ref ppv) "__get__" = some (some (.builtin "property.__get__")))
    (tpv : PySem.W.takesIn K (.ref ppv) = some true)
    (r_pv : PySem.W.recIn K ppv "property" = some (.ref fpv :: rpv))
    (lpv : K.lookup fpv = some ⟨ocpv, odpv, .func (PySem.W.fnOf "view" "Kept.view" (defArgs sKView) (defBody sKView) (defScope sKView) .none kVpv dcpv pmpv anpv cdpv ctpv), slpv⟩)
    (cpv : PySem.W.codeIn K cdpv "Kept.view" = true)
    (kpv : PySem.W.keepIn K (.ref fpv) = true)
    (aki : PySem.W.findIn K (.ref KC) "__init__" = some (some (.ref fki)))
    (iki : PySem.W.isFn K (.ref fki) = true)
    (mkKC : PySem.W.makesIn K KC = true)
    (kpKC : PySem.W.keepIn K (.ref KC) = true)
    (lki : K.lookup fki = some ⟨ocki, odki, .func (PySem.W.fnOf "__init__" "Kept.__init__" (defArgs sKInit) (defBody sKInit) (defScope sKInit) (.ref Dki) kVki dcki pmki anki cdki ctki), slki⟩)
    (cki : PySem.W.codeIn K cdki "Kept.__init__" = true)
    (kki : PySem.W.keepIn K (.ref fki) = true)
    (dki : K.lookup Dki = some ⟨ocDki, odDki, .seq #[.int 1 tkki0, .str "" tkki1] nDki, slDki⟩)
    (fnI : PySem.W.fnIn K fmi = true)
    (z_list : PySem.W.nsIn K mainGlobals "list" = some none)
    (z_int : PySem.W.nsIn K mainGlobals "int" = some none)
    (z_len : PySem.W.nsIn K mainGlobals "len" = some none)
    (z_range : PySem.W.nsIn K mainGlobals "range" = some none)
    (z_tuple : PySem.W.nsIn K mainGlobals "tuple" = some none)
    (z_sorted : PySem.W.nsIn K mainGlobals "sorted" = some none)
    (z_set : PySem.W.nsIn K mainGlobals "set" = some none)
    (z_repr : PySem.W.nsIn K mainGlobals "repr" = some none)
    (z_min : PySem.W.nsIn K mainGlobals "min" = some none)
    (z_max : PySem.W.nsIn K mainGlobals "max" = some none)
    (z_sum : PySem.W.nsIn K mainGlobals "sum" = some none)
    (z_dict : PySem.W.nsIn K mainGlobals "dict" = some none)
    (z_isinstance : PySem.W.nsIn K mainGlobals "isinstance" = some none)
    (z_bool : PySem.W.nsIn K mainGlobals "bool" = some none)
    (z_str : PySem.W.nsIn K mainGlobals "str" = some none) :
    ∃ fd : FuncData, (∀ (s : Shared) (v : Value), BindsTo s fd ⟨[v], []⟩ [("_law_script", v)]) ∧ ∀ base : Heap, K.In base → base.Ns mainGlobals mg → FnG l.prog w K mg base 8 fa fd ["_law_script"] (spLaw K) := by
  have e := hfa.symm.trans (PySem.W.mg_of X G aX)
  cases e
  have FH := fun_mk (st := sWhole) lH cH kH
  have bH := FH.binds (ps := ["thing"]) fun _ _ _ _ _ _ us hl => match us, hl with | [_], _ => rfl
  have gH := PySem.W.mg_of X G aH
  have FI := fun_mk (st := sState) lI cI kI
  have bI := FI.binds (ps := ["thing", "many"]) fun _ _ _ _ _ _ us hl => match us, hl with | [_, _], _ => rfl
  have gI := PySem.W.mg_of X G aI
  have FE := fun_mk (st := sText) lE cE kE
  have bE := FE.binds (ps := ["letters", "thing"]) fun _ _ _ _ _ _ us hl => match us, hl with | [_, _], _ => rfl
  have gE := PySem.W.mg_of X G aE
  have FA := fun_mk (st := sPairs) lA cA kA
  have bA := FA.binds (ps := ["numbers"]) fun _ _ _ _ _ _ us hl => match us, hl with | [_], _ => rfl
  have gA := PySem.W.mg_of X G aA
  have FC := fun_mk (st := sPieces) lC cC kC
  have bC := FC.binds (ps := ["width", "text"]) fun _ _ _ _ _ _ us hl => match us, hl with | [_, _], _ => rfl
  have gC := PySem.W.mg_of X G aC
  have FM := fun_mk (st := sSummed) lM cM kM
  have bM := FM.binds (ps := ["tables", "top"]) fun _ _ _ _ _ _ us hl => match us, hl with | [_, _], _ => rfl
  have gM := PySem.W.mg_of X G aM
  have FY := fun_mk (st := sEnded) lY cY kY
  have bY := FY.binds (ps := ["width", "text"]) fun _ _ _ _ _ _ us hl => match us, hl with | [_, _], _ => rfl
  have gY := PySem.W.mg_of X G aY
  have FV := fun_mk (st := sView) lV cV kV
  have bV := FV.binds (ps := ["width", "top", "text"]) fun _ _ _ _ _ _ us hl => match us, hl with | [_, _, _], _ => rfl
  have gV := PySem.W.mg_of X G aV
  have FT := fun_mk (st := sParts) lT cT kT
  have bT := FT.binds (ps := ["view"]) fun _ _ _ _ _ _ us hl => match us, hl with | [_], _ => rfl
  have gT := PySem.W.mg_of X G aT
  have FJ := fun_mk (st := sJoined) lJ cJ kJ
  have bJ := FJ.binds (ps := ["width", "top", "view", "other"]) fun _ _ _ _ _ _ us hl => match us, hl with | [_, _, _, _], _ => rfl
  have gJ := PySem.W.mg_of X G aJ
  have FK := fun_mk (st := sDeck) lK cK kK
  have bK := FK.binds (ps := ["_law_script"]) fun _ _ _ _ _ _ us hl => match us, hl with | [_], _ => rfl
  have gK := PySem.W.mg_of X G aK
  have FW := fun_mk (st := sDraw) lW cW kW
  have bW := FW.binds (ps := ["_law_deck_here", "_law_span"]) fun _ _ _ _ _ _ us hl => match us, hl with | [_, _], _ => rfl
  have gW := PySem.W.mg_of X G aW
  have FP := fun_mk (st := sPick) lP cP kP
  have bP := FP.binds (ps := ["_law_deck_here", "_law_some"]) fun _ _ _ _ _ _ us hl => match us, hl with | [_, _], _ => rfl
  have gP := PySem.W.mg_of X G aP
  have FZ := fun_mk (st := sSize) lZ cZ kZ
  have bZ := FZ.binds (ps := ["_law_deck_here"]) fun _ _ _ _ _ _ us hl => match us, hl with | [_], _ => rfl
  have gZ := PySem.W.mg_of X G aZ
  have FD := fun_mk (st := sWord) lD cD kD
  have bD := FD.binds (ps := ["_law_deck_here", "_law_signs", "_law_most"]) fun _ _ _ _ _ _ us hl => match us, hl with | [_, _, _], _ => rfl
  have gD := PySem.W.mg_of X G aD
  have FN := fun_mk (st := sSeen) lN cN kN
  have bN := FN.binds (ps := ["_law_k", "_law_t", "_law_word_here"]) fun _ _ _ _ _ _ us hl => match us, hl with | [_, _, _], _ => rfl
  have gN := PySem.W.mg_of X G aN
  have FL := fun_mk (st := sLess) lL cL kL
  have bL := FL.binds (ps := ["_law_some", "_law_gone", "_law_come"]) fun _ _ _ _ _ _ us hl => match us, hl with | [_, _, _], _ => rfl
  have gL := PySem.W.mg_of X G aL
  have FU := fun_mk (st := sTurn) lU cU kU
  have bU := FU.binds (ps := ["_law_deck_here", "_law_here", "_law_signs", "_law_k", "_law_t"]) fun _ _ _ _ _ _ us hl => match us, hl with | [_, _, _, _, _], _ => rfl
  have gU := PySem.W.mg_of X G aU
  have FR := fun_mk (st := sRight) lR cR kR
  have bR := FR.binds (ps := ["_law_deck_here"]) fun _ _ _ _ _ _ us hl => match us, hl with | [_], _ => rfl
  have gR := PySem.W.mg_of X G aR
  have FX := fun_mk (st := sLaw) lX cX kX
  have gX := PySem.W.mg_of X G aX
  have n_list := PySem.W.mg_none_of X G z_list
  have n_int := PySem.W.mg_none_of X G z_int
  have n_len := PySem.W.mg_none_of X G z_len
  have n_range := PySem.W.mg_none_of X G z_range
  have n_tuple := PySem.W.mg_none_of X G z_tuple
  have n_sorted := PySem.W.mg_none_of X G z_sorted
  have n_set := PySem.W.mg_none_of X G z_set
  have n_repr := PySem.W.mg_none_of X G z_repr
  have n_min := PySem.W.mg_none_of X G z_min
  have n_max := PySem.W.mg_none_of X G z_max
  have n_sum := PySem.W.mg_none_of X G z_sum
  have n_dict := PySem.W.mg_none_of X G z_dict
  have n_isinstance := PySem.W.mg_none_of X G z_isinstance
  have n_bool := PySem.W.mg_none_of X G z_bool
  have n_str := PySem.W.mg_none_of X G z_str
  have TKC : Cls K KC := ⟨pgKC, hdKC, poKC, saKC⟩
  have gKC := PySem.W.mg_of X G aKC
  have Fml := fun_mk (st := sKLen) lml cml kml
  have bml := Fml.binds (ps := ["self"]) fun _ _ _ _ _ _ us hl => match us, hl with | [_], _ => rfl
  have mml : Meth K KC "__len__" fml := ⟨aml, iml, kml⟩
  have Fmi := fun_mk (st := sKItem) lmi cmi kmi
  have bmi := Fmi.binds (ps := ["self", "at"]) fun _ _ _ _ _ _ us hl => match us, hl with | [_, _], _ => rfl
  have mmi : Meth K KC "__getitem__" fmi := ⟨ami, imi, kmi⟩
  have Fmp := fun_mk (st := sKPlace) lmp cmp kmp
  have bmp := Fmp.binds (ps := ["self", "place"]) fun _ _ _ _ _ _ us hl => match us, hl with | [_, _], _ => rfl
  have mmp : Meth K KC "_check_place" fmp := ⟨amp, imp, kmp⟩
  have Fmg := fun_mk (st := sKChange) lmg cmg kmg
  have bmg := Fmg.binds (ps := ["self", "text"]) fun _ _ _ _ _ _ us hl => match us, hl with | [_, _], _ => rfl
  have mmg : Meth K KC "_change" fmg := ⟨amg, img, kmg⟩
  have Fmu := fun_mk (st := sKPut) lmu cmu kmu
  have bmu := Fmu.binds (ps := ["self", "place", "text"]) fun _ _ _ _ _ _ us hl => match us, hl with | [_, _, _], _ => rfl
  have mmu : Meth K KC "put" fmu := ⟨amu, imu, kmu⟩
  have Fmc := fun_mk (st := sKCut) lmc cmc kmc
  have bmc := Fmc.binds (ps := ["self", "start", "stop"]) fun _ _ _ _ _ _ us hl => match us, hl with | [_, _, _], _ => rfl
  have mmc : Meth K KC "cut" fmc := ⟨amc, imc, kmc⟩
  have Fmn := fun_mk (st := sKUndo) lmn cmn kmn
  have bmn := Fmn.binds (ps := ["self"]) fun _ _ _ _ _ _ us hl => match us, hl with | [_], _ => rfl
  have mmn : Meth K KC "undo" fmn := ⟨amn, imn, kmn⟩
  have Fpx := fun_mk (st := sKText) lpx cpx kpx
  have bpx := Fpx.binds (ps := ["self"]) fun _ _ _ _ _ _ us hl => match us, hl with | [_], _ => rfl
  have p_px : PropOf K KC "text" ppx fpx := ⟨apx, epx, tpx, _, r_px⟩
  have Fpv := fun_mk (st := sKView) lpv cpv kpv
  have bpv := Fpv.binds (ps := ["self"]) fun _ _ _ _ _ _ us hl => match us, hl with | [_], _ => rfl
  have p_pv : PropOf K KC "view" ppv fpv := ⟨apv, epv, tpv, _, r_pv⟩
  have MKC : Mk K KC fki := ⟨mkKC, aki, iki, kpKC⟩
  have Fki : FunD K "__init__" "Kept.__init__" (defArgs sKInit) (defBody sKInit) (defScope sKInit) [.int 1, .str ""] [] fki _ := ⟨⟨ocki, odki, .ref Dki, kVki, dcki, pmki, anki, cdki, ctki, slki, rfl, lki, cki, .inr ⟨by (intro z; cases z), Dki, _, [.int 1 tkki0, .str "" tkki1], nDki, rfl, dki, rfl, (.cons ⟨_, rfl⟩ (.cons ⟨_, rfl⟩ .nil))⟩, .inl rfl⟩, kki⟩
  refine ⟨PySem.W.fnOf "law" "law" (defArgs sLaw) (defBody sLaw) (defScope sLaw) .none kVX dcX pmX anX cdX ctX, fun s v => .of_eq rfl, fun base _ _ => ?_⟩
  have TD : TxtD mg fW := ⟨n_list, n_int, n_len, gW⟩
  have TI : TxtI mg := ⟨n_isinstance, n_int, n_bool, n_str, n_len⟩
  have TP : TxtP mg := ⟨n_tuple, n_sorted, n_set, n_range, n_len⟩
  have TS : TxtS mg := { len := n_len, range := n_range, tuple := n_tuple, sorted := n_sorted, min := n_min }
  have TW : TxtW mg fW fP := { toTxtD := TD, pick := gP, range := n_range, min := n_min }
  have TK : TxtK K mg KC := ⟨TKC, nKC_letters, nKC_width, nKC_top, nKC_text, nKC_earlier⟩
  have TLs : TxtLs mg := ⟨n_dict, n_sorted⟩
  have TR : TxtR mg KC fW fP fC fV fJ fN fL := { toTxtW := TW, pieces := gC, view := gV, joined := gJ, seen := gN, less := gL, rep := n_repr, max := n_max, sum := n_sum }
  have TZ : TxtZ mg KC fW fP fZ fD fU := { toTxtW := TW, size := gZ, word := gD, turn := gU, kept := gKC, rep := n_repr }
  have TL : TxtL mg fK fR := ⟨gK, gR, n_range⟩
  have GH := ok_whole (P := l.prog) (w := w) (base := base) FH TI
  have GI := ok_state (P := l.prog) (w := w) (base := base) FI GH bH FH.kp gH
  have GE := ok_text (P := l.prog) (w := w) (base := base) FE TI
  have GW := ok_draw (P := l.prog) (w := w) (base := base) FW TD
  have GP := ok_pick (P := l.prog) (w := w) (base := base) FP FW bW TD
  have GQ := ok_pickS (P := l.prog) (w := w) (base := base) FP FW bW TD
  have GA := ok_pairs (P := l.prog) (w := w) (base := base) FA TP
  have GC := ok_pieces (P := l.prog) (w := w) (base := base) FC TP GA bA FA.kp gA
  have GAF := ok_pairsF (P := l.prog) (w := w) (base := base) FA TP
  have GCF := ok_piecesF (P := l.prog) (w := w) (base := base) FC TP GAF bA FA.kp gA
  have GM := ok_summed (P := l.prog) (w := w) (base := base) FM GA bA FA.kp gA
  have GY := ok_ended (P := l.prog) (w := w) (base := base) FY TP
  have GV := ok_view (P := l.prog) (w := w) (base := base) FV TP GC bC FC.kp gC GY bY FY.kp gY GM bM FM.kp gM
  have GT := ok_parts (P := l.prog) (w := w) (mg := mg) (base := base) FT
  have GJ := ok_joined (P := l.prog) (w := w) (base := base) FJ GV bV FV.kp gV GT bT FT.kp gT GC bC FC.kp gC GY bY FY.kp gY GM bM FM.kp gM
  have GZ := ok_size (P := l.prog) (w := w) (base := base) FZ TW GW bW FW.kp GP bP FP.kp
  have GD := ok_word (P := l.prog) (w := w) (base := base) FD TW GW bW FW.kp GQ bP FP.kp
  have GN := ok_seen (P := l.prog) (w := w) (base := base) FN TS
  have GL := ok_less (P := l.prog) (w := w) (base := base) FL TLs
  have K1 := ok_kinit (P := l.prog) (w := w) (base := base) Fki TK GE bE FE.kp gE
  have K2 := ok_ktext (P := l.prog) (w := w) (base := base) Fpx TK
  have K3 := ok_kview (P := l.prog) (w := w) (base := base) Fpv TK GV bV FV.kp gV
  have K4 := ok_klen (P := l.prog) (w := w) (base := base) Fml TK n_len
  have K5 := ok_kitem (P := l.prog) (w := w) (base := base) Fmi TK n_len GI bI FI.kp gI
  have K6 := ok_kplace (P := l.prog) (w := w) (base := base) Fmp TK n_len GI bI FI.kp gI
  have K7 := ok_kchange (P := l.prog) (w := w) (base := base) Fmg TK
  have K8 := ok_kput (P := l.prog) (w := w) (base := base) Fmu TK GE bE FE.kp gE K6 bmp mmp K7 bmg mmg
  have K9 := ok_kcut (P := l.prog) (w := w) (base := base) Fmc TK K6 bmp mmp K7 bmg mmg
  have KU := ok_undo0 (P := l.prog) (w := w) (base := base) Fmn TK n_len
  have GU := ok_turn (P := l.prog) (w := w) (base := base) FU TK TR GW bW FW.kp GQ bP FP.kp GCF bC FC.kp GV bV FV.kp GJ bJ FJ.kp GN bN FN.kp GL bL FL.kp K2 bpx p_px K3 bpv p_pv K5 bmi mmi fnI K8 bmu mmu K9 bmc mmc KU bmn mmn
  have GR := ok_right (P := l.prog) (w := w) (base := base) FR TK TZ GW bW FW.kp GZ bZ FZ.kp GD bD FD.kp GU bU FU.kp MKC K1 (kept_b5 Fki) K2 bpx p_px K3 bpv p_pv K4 bml mml K8 bmu mmu
  exact ok_law FX TL (ok_deck FK TD) bK FK.kp GR bR FR.kp
end
theorem walk {l : PySem.W.OpenLaw} {q : Program} {loose : List Str} {XP : (Str → Option Value) → Heap → Prop} {YP : World → Heap → Prop} {d : DefRec} {K : Params → PySem.W.Frag} (hn : l.most = some 63) (hdf : d.params.defaults = [])
    (hY : ∀ (w : World) (h : Heap), YP w h → (K w.params).In h)
    (F : ∀ (w : World) (mg : Str → Option Value) (fa : Addr) (h : Heap), (K w.params).In h → h.Ns mainGlobals mg → mg d.name = some (.ref fa) →
      ∃ fd : FuncData, (∀ (s : Shared) (u : Value), BindsTo s fd ⟨[u], []⟩ [("_law_script", u)]) ∧ ∀ base : Heap, (K w.params).In base → base.Ns mainGlobals mg → FnG l.prog w (K w.params) mg base 8 fa fd ["_law_script"] (spLaw (K w.params))) :
    PySem.W.WalkO q loose XP YP l.row.toRowW d [] (fun f vs => PySem.call f vs) :=
  walk_ofG (n := 63) (k := 8) (x := "_law_script") (sp := fun w => spLaw (K w.params)) hn (by decide) hdf ⟨rfl, by decide, by decide⟩ hY F (fun _ _ a ns hl _ hS => ⟨a, ns, rfl, hS, hl, fun _ => rfl⟩)
end Vf
open PySem PySem.W PyProof.Rows
set_option maxRecDepth 100000 in
set_option maxHeartbeats 0 in
theorem PySem.Challenge.cw_piecesseen_k66_whole_one_letter_put_othe_holds : PySem.Challenge.rw_piecesseen_k66_whole_one_letter_put_othe.Holds := by
  w_on; o_law; k_head; (case hw => w_witness2)
  k_fill
  refine Vf.walk (l := PySem.Challenge.rw_piecesseen_k66_whole_one_letter_put_othe) rfl rfl (fun w h Y => PySem.W.kIn_of Y) ?F
  case F =>
    intro w mg fa h KX G hmg
    refine' Vf.all_mk KX G hmg ?aH ?lH ?cH ?kH ?aI ?lI ?cI ?kI ?aE ?lE ?cE ?kE ?aA ?lA ?cA ?kA ?aC ?lC ?cC ?kC ?aM ?lM ?cM ?kM ?aY ?lY ?cY ?kY ?aV ?lV ?cV ?kV ?aT ?lT ?cT ?kT ?aJ ?lJ ?cJ ?kJ ?aK ?lK ?cK ?kK ?aW ?lW ?cW ?kW ?aP ?lP ?cP ?kP ?aZ ?lZ ?cZ ?kZ ?aD ?lD ?cD ?kD ?aN ?lN ?cN ?kN ?aL ?lL ?cL ?kL ?aU ?lU ?cU ?kU ?aR ?lR ?cR ?kR ?aX ?lX ?cX ?kX ?aKC ?pgKC ?hdKC ?poKC ?saKC ?nKC_letters ?nKC_width ?nKC_top ?nKC_text ?nKC_earlier ?aml ?iml ?lml ?cml ?kml ?ami ?imi ?lmi ?cmi ?kmi ?amp ?imp ?lmp ?cmp ?kmp ?amg ?img ?lmg ?cmg ?kmg ?amu ?imu ?lmu ?cmu ?kmu ?amc ?imc ?lmc ?cmc ?kmc ?amn ?imn ?lmn ?cmn ?kmn ?apx ?epx ?tpx ?r_px ?lpx ?cpx ?kpx ?apv ?epv ?tpv ?r_pv ?lpv ?cpv ?kpv ?aki ?iki ?mkKC ?kpKC ?lki ?cki ?kki ?dki ?fnI ?z_list ?z_int ?z_len ?z_range ?z_tuple ?z_sorted ?z_set ?z_repr ?z_min ?z_max ?z_sum ?z_dict ?z_isinstance ?z_bool ?z_str
    (case aH => k_is)
    (case lH => k_is)
    (case cH => k_is)
    (case kH => k_is)
    (case aI => k_is)
    (case lI => k_is)
    (case cI => k_is)
    (case kI => k_is)
    (case aE => k_is)
    (case lE => k_is)
    (case cE => k_is)
    (case kE => k_is)
    (case aA => k_is)
    (case lA => k_is)
    (case cA => k_is)
    (case kA => k_is)
    (case aC => k_is)
    (case lC => k_is)
    (case cC => k_is)
    (case kC => k_is)
    (case aM => k_is)
    (case lM => k_is)
    (case cM => k_is)
    (case kM => k_is)
    (case aY => k_is)
    (case lY => k_is)
    (case cY => k_is)
    (case kY => k_is)
    (case aV => k_is)
    (case lV => k_is)
    (case cV => k_is)
    (case kV => k_is)
    (case aT => k_is)
    (case lT => k_is)
    (case cT => k_is)
    (case kT => k_is)
    (case aJ => k_is)
    (case lJ => k_is)
    (case cJ => k_is)
    (case kJ => k_is)
    (case aK => k_is)
    (case lK => k_is)
    (case cK => k_is)
    (case kK => k_is)
    (case aW => k_is)
    (case lW => k_is)
    (case cW => k_is)
    (case kW => k_is)
    (case aP => k_is)
    (case lP => k_is)
    (case cP => k_is)
    (case kP => k_is)
    (case aZ => k_is)
    (case lZ => k_is)
    (case cZ => k_is)
    (case kZ => k_is)
    (case aD => k_is)
    (case lD => k_is)
    (case cD => k_is)
    (case kD => k_is)
    (case aN => k_is)
    (case lN => k_is)
    (case cN => k_is)
    (case kN => k_is)
    (case aL => k_is)
    (case lL => k_is)
    (case cL => k_is)
    (case kL => k_is)
    (case aU => k_is)
    (case lU => k_is)
    (case cU => k_is)
    (case kU => k_is)
    (case aR => k_is)
    (case lR => k_is)
    (case cR => k_is)
    (case kR => k_is)
    (case aX => k_is)
    (case lX => k_is)
    (case cX => k_is)
    (case kX => k_is)
    (case aKC => k_is)
    (case pgKC => k_is)
    (case hdKC => k_is)
    (case poKC => k_is)
    (case saKC => k_is)
    (case nKC_letters => k_is)
    (case nKC_width => k_is)
    (case nKC_top => k_is)
    (case nKC_text => k_is)
    (case nKC_earlier => k_is)
    (case aml => k_is)
    (case iml => k_is)
    (case lml => k_is)
    (case cml => k_is)
    (case kml => k_is)
    (case ami => k_is)
    (case imi => k_is)
    (case lmi => k_is)
    (case cmi => k_is)
    (case kmi => k_is)
    (case amp => k_is)
    (case imp => k_is)
    (case lmp => k_is)
    (case cmp => k_is)
    (case kmp => k_is)
    (case amg => k_is)
    (case img => k_is)
    (case lmg => k_is)
    (case cmg => k_is)
    (case kmg => k_is)
    (case amu => k_is)
    (case imu => k_is)
    (case lmu => k_is)
    (case cmu => k_is)
    (case kmu => k_is)
    (case amc => k_is)
    (case imc => k_is)
    (case lmc => k_is)
    (case cmc => k_is)
    (case kmc => k_is)
    (case amn => k_is)
    (case imn => k_is)
    (case lmn => k_is)
    (case cmn => k_is)
    (case kmn => k_is)
    (case apx => k_is)
    (case epx => k_is)
    (case tpx => k_is)
    (case r_px => k_is)
    (case lpx => k_is)
    (case cpx => k_is)
    (case kpx => k_is)
    (case apv => k_is)
    (case epv => k_is)
    (case tpv => k_is)
    (case r_pv => k_is)
    (case lpv => k_is)
    (case cpv => k_is)
    (case kpv => k_is)
    (case aki => k_is)
    (case iki => k_is)
    (case mkKC => k_is)
    (case kpKC => k_is)
    (case lki => k_is)
    (case cki => k_is)
    (case kki => k_is)
    (case dki => k_is)
    (case fnI => k_is)
    (case z_list => k_is)
    (case z_int => k_is)
    (case z_len => k_is)
    (case z_range => k_is)
    (case z_tuple => k_is)
    (case z_sorted => k_is)
    (case z_set => k_is)
    (case z_repr => k_is)
    (case z_min => k_is)
    (case z_max => k_is)
    (case z_sum => k_is)
    (case z_dict => k_is)
    (case z_isinstance => k_is)
    (case z_bool => k_is)
    (case z_str => k_is)
