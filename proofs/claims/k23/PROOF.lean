import PyProof.Rows.All
import Wide.All
import OpenK.AllK
import Wide.FinOn
import HandS.ForMost
import HandS.Strs
import HandS.SetFor
import HandS.SetTxt0
import HandS.Walk
import HandS.Style
import HandS.IsInst
import HandS.More
import HandS.ExcInit
import HandS.HotCalls
import HandS.WordsExc
import HandS.Codes
import HandS.ForDict
import PySem.Challenge.RW_piecesseen_k23_judges_learned_from_texts
import HandS.SortInts
import HandS.TupSets
import PyProof.SeqIndex
import HandS.Dict
import HandS.Text
import HandS.StrMore
import PyProof.StrLawsFrom
import PyProof.Rows.StrBetween
import PyProof.FitsInt
import PyProof.Rows.StrJoinMade
import HandS.DictComp
import HandS.Zip
import HandS.TupAny
import KE.LtData
import KE.SortLaws
import HandS.SortKw
import HandS.Conv
import KE.SortKeyHeap
import KE.SortData
import HandS.List
import HandS.Star
import PyProof.NeData
import PyProof.Rows.StrCut
set_option Elab.async false
set_option linter.all false
set_option maxRecDepth 100000
set_option maxHeartbeats 4000000
namespace Vs
open PySem PySem.Spec PyProof.Rows L2
open PySem.Froz (SD sObj addTx tailTx sing TxOk)
/-! ### a set of texts, as it grows out of a text's signs -/
theorem tail_ris {ep : Nat} {es : Array (Int × Value)} {t : SetTable} {b : Bool} (r : Ris t.place.toList) : Ris (tailTx ep es t b).2.2.place.toList := by
  unfold tailTx
  split
  · exact relayAll_ris t es _
  · exact r
theorem tail_led {ep : Nat} {es : Array (Int × Value)} {t : SetTable} {b : Bool} : (tailTx ep es t b).2.2.led = t.led := by
  unfold tailTx
  split
  · exact relayAll_led t es _
  · rfl
theorem add_ris {h : Int} {v : Value} {D : SD} (r : Ris D.2.2.place.toList) : Ris (addTx h v D).2.2.place.toList := by
  unfold addTx
  refine tail_ris ?_
  have q := layNew_ris D.2.2 D.1 h v r
  split <;> exact q
theorem add_led {h : Int} {v : Value} {D : SD} : (addTx h v D).2.2.led = D.2.2.led := by
  unfold addTx
  refine tail_led.trans ?_
  have q := layNew_led D.2.2 D.1 h v
  split <;> exact q
/-- the payload D holds just the texts l, each once, and can be walked -/
structure Tx (P : Program) (w : World) (D : SD) (l : List Str) : Prop where
  ok : TxOk P w D l
  ris : Ris D.2.2.place.toList
  led : w.params.followText "set-order" = true ∨ D.2.2.led = true
  nd : l.Nodup
section
variable {P : Program} {w : World} {A : Around} {E : Value → Shared → Prop} {s : Shared}
theorem Tx.add {D : SD} {l : List Str} {k : Str} (u : Tok) (F : Tx P w D l) (hk : k ∉ l) : Tx P w (addTx (hashStr w k) (.str k u) D) (k :: l) :=
  ⟨Froz.add_ok u F.ok, add_ris F.ris, F.led.imp id fun z => add_led.trans z, List.nodup_cons.mpr ⟨hk, F.nd⟩⟩
/-- a text that is there already -/
theorem add_old {a : Addr} {T : String} {D : SD} {l : List Str} {k : Str} {u : Tok} {Q : Bool → Shared → Prop} (ho : s.heap.get? a = some (sObj T D)) (F : TxOk P w D l) (hk : k ∈ l) (hb : l.length < scanBound)
    (h : Q false s) : wpAny (model P w) A (setAddHashed a (.str k u) (hashStr w k)) Q E s := by
  obtain ⟨es, ep, t⟩ := D
  have hd : (sObj T (es, ep, t)).data = .set es ep t := rfl
  have hf : t.fits es.size = true := F.fit
  have hel : ElemsOf (strKind P w) es.toList := F.el
  have hb0 : es.size < scanBound := by
    have z : es.size = l.length := F.sz
    omega
  obtain ⟨e, he, hi⟩ := (F.mem k).mp hk
  unfold setAddHashed setAddHashedIn
  refine wpAny_holding (wpAny_bind (wpAny_setState_of ho hd hf ?_))
  dsimp only
  rw [byScan_of rfl hb0 hel]
  simp only [↓reduceIte]
  unfold setAddByScan
  refine wpAny_bind (wpAny_bind (wpAny_rule (wpAny_bind (wpAny_setScan_of (knd := strKind P w) (k := k) (Froz.is_str k u) ho hd hf hel ?_))))
  cases hr : List.findIdx? (fun e => (strKind P w).is k e.2) es.toList with
  | none =>
    have c := List.findIdx?_eq_none_iff.mp hr e he
    rw [hi] at c
    cases c
  | some j => exact wpAny_pure (wpAny_pure h)
/-- the texts of one sign each -/
abbrev parts (x : Str) : List Str := x.cps.toList.map sing
/-- the loop that puts them in -/
theorem loop_tx {I : Addr} {fp wr : List Addr} {G : Array GenState → Array GenState → Prop} {n : Nat} {x : Str} {St : Nat → Shared → Prop} {R : Result → Shared → Prop}
    (W : WalksS P w A.in1 I fp wr G n (SignAt x) St) (S : Addr) (hSf : S ∉ fp) (hn : n = x.cps.size) (hb : n + 1 < scanBound) :
    ∀ (m i : Nat) (s : Shared), n - i = m → i ≤ n → St i s → (∃ D l, s.heap.get? S = some (sObj "set" D) ∧ Tx P w D l ∧ l.length ≤ i ∧ ∀ k, k ∈ l ↔ k ∈ (parts x).take i) →
      (∀ s' D l, Moved (S :: wr) G s s' → s'.heap.get? S = some (sObj "set" D) → Tx P w D l → (∀ k, k ∈ l ↔ k ∈ parts x) → R (.ok (.ret .none)) s') →
      codeAny (model P w) A (.builtin "set.update.loop" ⟨[.ref S, .ref I], []⟩) R s := by
  have hSw : S ∉ wr := fun h => hSf (W.sub _ h)
  have more : ∀ b ∈ wr, b ∈ S :: wr := fun b => List.mem_cons_of_mem _
  have hpl : (parts x).length = n := by rw [List.length_map, Array.length_toList, hn]
  intro m
  induction m with
  | zero =>
    intro i s hm hi hst ⟨D, l, hS, F, hl, hmem⟩ hR
    obtain rfl : i = n := by omega
    refine codeAny_builtin PyProof.Rows.F.entry_set_update_loop ?_
    rw [Around.under_plainId PyProof.Rows.F.plain_set_update_loop _]
    refine wpAny_bind (W.done s _ _ hst fun s' mv => wpAny_pure (hR s' D l (mv.mono more) (mv.heap S _ hSw hS) F fun k => ?_))
    rw [hmem k, List.take_of_length_le (Nat.le_of_eq hpl)]
  | succ m ih =>
    intro i s hm hi hst ⟨D, l, hS, F, hl, hmem⟩ hR
    refine codeAny_builtin PyProof.Rows.F.entry_set_update_loop ?_
    rw [Around.under_plainId PyProof.Rows.F.plain_set_update_loop _]
    refine wpAny_bind (W.item i s _ _ (by omega) hst fun v s1 hP hst1 mv => ?_)
    obtain ⟨c, u, hc, rfl⟩ := hP
    have hS1 := mv.heap S _ hSw hS
    have hp : (parts x)[i]? = some (sing c) := by rw [List.getElem?_map, Array.getElem?_toList, hc]; rfl
    have hnx : ∀ k, k ∈ (parts x).take (i + 1) ↔ k ∈ l ∨ k = sing c := fun k => by
      rw [List.take_add_one, hp, List.mem_append, ← hmem k]
      simp
    refine wpAny_bind (wpAny_holding ?_)
    unfold setAdd
    refine wpAny_holding (wpAny_bind ((strKind P w).pyHash (k := sing c) (Froz.is_str _ _) ?_))
    by_cases hk : sing c ∈ l
    · refine add_old (s := { s1 with toks := s1.toks + 1 }) hS1 F.ok hk (by omega) ?_
      refine wpAny_pure ⟨plainId_quiet PyProof.Rows.F.plain_set_update_loop _, ih (i + 1) _ (by omega) (by omega) (W.frame _ s1 _ _ hst1 (Nat.le_succ _) fun b _ o e => e) ⟨D, l, hS1, F, by omega, fun k => ?_⟩ fun s2 D2 l2 mv2 hS2 F2 h2 => ?_⟩
      · rw [hnx k]
        exact ⟨.inl, fun z => z.elim id fun z => z ▸ hk⟩
      · exact hR s2 D2 l2 (Moved.trans W.gtrans ((mv.mono more).then_heap (Nat.le_succ _) fun b o _ e => e) mv2) hS2 F2 h2
    · refine Froz.add_x (s := { s1 with toks := s1.toks + 1 }) hS1 F.ok hk (by omega) ?_
      have hS2 : (s1.heap.update S (fun _ => sObj "set" (addTx (hashStr w (sing c)) (.str (sing c) u) D))).get? S = some (sObj "set" (addTx (hashStr w (sing c)) (.str (sing c) u) D)) := Froz.get_upd _ hS1 rfl
      have other : ∀ b o, b ≠ S → s1.heap.get? b = some o → (s1.heap.update S (fun _ => sObj "set" (addTx (hashStr w (sing c)) (.str (sing c) u) D))).get? b = some o := fun b o n e => (Heap.get?_update_other _ _ (Ne.symm n)).trans e
      refine wpAny_pure ⟨plainId_quiet PyProof.Rows.F.plain_set_update_loop _, ih (i + 1) _ (by omega) (by omega) (W.frame _ s1 _ _ hst1 (Nat.le_succ _) fun b hb' o e => other b o (fun z => hSf (z ▸ hb')) e) ⟨_, sing c :: l, hS2, F.add u hk, (by simp only [List.length_cons]; omega), fun k => ?_⟩ fun s2 D2 l2 mv2 hS3 F2 h2 => ?_⟩
      · rw [hnx k, List.mem_cons]
        exact Or.comm
      · exact hR s2 D2 l2 (Moved.trans W.gtrans ((mv.mono more).then_heap (Nat.le_succ _) fun b o nb e => other b o (fun z => nb (z ▸ List.mem_cons_self ..)) e) mv2) hS3 F2 h2
end
end Vs

set_option Elab.async false
set_option linter.all false
set_option maxRecDepth 100000
set_option maxHeartbeats 4000000
namespace Vs
open PySem PySem.Spec PyProof.Rows L2
open PySem.Froz (SD sObj addTx tailTx sing TxOk)
section
variable {P : Program} {w : World} {A : Around} {E : Value → Shared → Prop} {s : Shared}
/-- the empty payload of a new set -/
abbrev emptyD (w : World) : SD := (#[], 0, .fresh 0 0 (!w.params.followText "set-order"))
theorem tx_empty : Tx P w (emptyD w) [] := by
  refine ⟨TxOk.nil (by rfl), List.Pairwise.nil, ?_, List.nodup_nil⟩
  show _ ∨ (!w.params.followText "set-order") = true
  cases w.params.followText "set-order" <;> simp
/-- where set(v) goes once the new set stands: its __init__ -/
theorem set_by_init {v : Value} {Q : Value → Shared → Prop}
    (h : ∀ R : Result → Shared → Prop, (∀ s₂, Q (.ref s.heap.objs.size) s₂ → R (.ok (.ret .none)) s₂) → wpAny (model P w) A.in1.in1 (Builtin.«set.__init__» ⟨[.ref s.heap.objs.size, v], []⟩)
      (fun fin s' => match fin with | .done f => R (.ok f) s' | .again c' => c'.quiet = true ∧ codeAny (model P w) A.in1 c' R s') (fun e s' => R (.error e) s') { s with heap := s.heap.push (sObj "set" (emptyD w)) }) :
    wpAny (model P w) A (call (.type "set") [v]) Q E s := by
  obtain ⟨c, tl, hmro⟩ := F.called_set.mro
  have g1 := F.called_set.made
  have g2 := F.called_set.sub
  have g3 := F.called_set.notType
  have g4 := F.called_set.canCreate
  have g5 := F.typeCall_set_1 v
  refine wpAny_call (codeAny_of_tree ?_)
  refine wpAny_pure ⟨Code.quiet_builtin _ (by decide +kernel), codeAny_builtin F.entry_type_call ?_⟩
  rw [Around.under_plain (weight_type_call_type "set" [v] []) rfl]
  repeat (any_goals (first | assumption | wp_step))
  refine codeAny_mono (code_set_led1 v (E := E) (Q₁ := fun obj s₁ => obj = .ref s.heap.objs.size ∧ s₁ = { s with heap := s.heap.push (sObj "set" (emptyD w)) }) ⟨rfl, rfl⟩) fun r s₁ hr => ?_
  match r, hr with
  | .ok (.ret obj), hr =>
    obtain ⟨rfl, rfl⟩ := hr
    have hS : (s.heap.push (sObj "set" (emptyD w))).get? s.heap.objs.size = some (sObj "set" (emptyD w)) := Heap.get?_push_size _ rfl
    have hT : Shared.TypeIs { s with heap := s.heap.push (sObj "set" (emptyD w)) } (.ref s.heap.objs.size) "set" := ⟨_, hS, rfl⟩
    have g6 := F.called_set.init.lookup
    have g7 := F.called_set.init.bind (.ref s.heap.objs.size)
    repeat (any_goals (first | assumption | wp_step))
    refine codeAny_mono (codeAny_call_builtin (R := wants (fun r s₂ => r = .none ∧ Q (.ref s.heap.objs.size) s₂) E) F.called_set.init.plain F.entry_set_init (check_set_init_1 hT (h _ fun s₂ q => ⟨rfl, q⟩))) fun r₂ s₂ hr₂ => ?_
    match r₂, hr₂ with
    | .ok (.ret _), hr₂ =>
      obtain ⟨rfl, q⟩ := hr₂
      repeat (any_goals (first | assumption | wp_step))
    | .error e, hr₂ => exact hr₂
    | .ok .next, hr₂ => exact hr₂.elim
    | .ok .brk, hr₂ => exact hr₂.elim
    | .ok .cont, hr₂ => exact hr₂.elim
  | .error e, hr => exact hr
  | .ok .next, hr => exact hr.elim
  | .ok .brk, hr => exact hr.elim
  | .ok .cont, hr => exact hr.elim
end
end Vs

set_option Elab.async false
set_option linter.all false
set_option maxRecDepth 100000
set_option maxHeartbeats 4000000
namespace Vs
open PySem PySem.Spec PyProof.Rows L2
open PySem.Froz (SD sObj addTx tailTx sing TxOk)
section
variable {P : Program} {w : World} {A : Around} {E : Value → Shared → Prop} {s : Shared}
theorem sub_str_set : isSubtype (.type "str") (.type "set") = pure false := by rw [isSubtype_type]; kernel_rfl
theorem sub_str_frozenset : isSubtype (.type "str") (.type "frozenset") = pure false := by rw [isSubtype_type]; kernel_rfl
/-- set(text) -/
theorem call_set_text {x : Str} {u : Tok} {Q : Value → Shared → Prop} (hh : A.handled = none) (hb : x.cps.size + 1 < scanBound)
    (h : ∀ (s' : Shared) D l, (∀ b o, s.heap.get? b = some o → s'.heap.get? b = some o) → s'.gens = s.gens → s'.os = s.os → s'.heap.get? s.heap.objs.size = some (sObj "set" D) → Tx P w D l → (∀ k, k ∈ l ↔ k ∈ parts x) → Q (.ref s.heap.objs.size) s') :
    wpAny (model P w) A (call (.type "set") [.str x u]) Q E s := by
  refine set_by_init fun R hR => ?_
  have hS : (s.heap.push (sObj "set" (emptyD w))).get? s.heap.objs.size = some (sObj "set" (emptyD w)) := Heap.get?_push_size _ rfl
  have hz : (s.heap.push (sObj "set" (emptyD w))).objs.size = s.heap.objs.size + 1 := Heap.size_push ..
  have hold : ∀ b o, s.heap.get? b = some o → (s.heap.push (sObj "set" (emptyD w))).get? b = some o := fun b o e => Heap.get?_push_of_some _ e
  have t1 := sub_str_set
  have t2 := sub_str_frozenset
  have t3 : (Value.type "str" == Value.type "dict") = false := by decide
  generalize s.heap.push (sObj "set" (emptyD w)) = h1 at hS hz hold ⊢
  unfold Builtin.«set.__init__» noKeywords Builtin.Frozenset.updateFrom
  generalize hPI : pyIter = PI
  wp_walk
  subst hPI
  refine wpAny_pyIter_str fun o St W hst => wpAny_bind (wpAny_runValue ?_)
  have hx : ∀ b u', h1.get? b = some u' → b ≠ h1.objs.size := fun b u' e => Nat.ne_of_lt (Heap.lt_size e)
  have hSf : s.heap.objs.size ∉ [h1.objs.size] := fun z => hx _ _ hS (List.mem_singleton.mp z)
  refine loop_tx (W _ (by simp [hh])).toS s.heap.objs.size hSf rfl hb _ 0 _ rfl (Nat.zero_le _) hst ⟨_, [], Heap.get?_push_of_some _ hS, tx_empty, Nat.le_refl _, fun k => by simp⟩ fun s2 D l mv hS2 F hm => ?_
  refine wpAny_pure (wpAny_pure (hR _ (h s2 D l (fun b o' e => ?_) mv.gens mv.os hS2 F hm)))
  refine mv.heap b o' (fun z => ?_) (Heap.get?_push_of_some _ (hold b o' e))
  rcases List.mem_cons.mp z with z | z
  · rw [z] at e
    exact Nat.lt_irrefl _ (Heap.lt_size e)
  · exact hx _ _ (hold b o' e) (List.mem_singleton.mp z)
/-! ### sorted(set of texts) -/
theorem strs_of : ∀ (l : List Value), (∀ v ∈ l, ∃ k tk, v = Value.str k tk) → StrsAre l (l.map strOf)
  | [], _ => .nil
  | v :: l, h => by
    obtain ⟨k, tk, rfl⟩ := h v (List.mem_cons_self ..)
    exact .cons k tk (strs_of l fun u hu => h u (List.mem_cons_of_mem _ hu))
theorem perm_same {α : Type} [DecidableEq α] : ∀ (l m : List α), l.Nodup → (∀ k ∈ l, k ∈ m) → m.length ≤ l.length → m.Perm l
  | [], m, _, _, h => by rw [List.length_eq_zero_iff.mp (Nat.le_zero.mp h)]
  | x :: l, m, d, s, h => by
    obtain ⟨d1, d2⟩ := List.nodup_cons.mp d
    have hx := s x (List.mem_cons_self ..)
    have p := List.perm_cons_erase hx
    have hl := p.length_eq
    simp only [List.length_cons] at hl h
    exact p.trans ((perm_same l (m.erase x) d2 (fun k hk => (List.mem_erase_of_ne fun z : k = x => d1 (by rw [← z]; exact hk)).mpr (s k (List.mem_cons_of_mem _ hk))) (by omega)).cons x)
theorem Tx.vals {D : SD} {l : List Str} (F : Tx P w D l) : (∀ e ∈ D.1.toList, ∃ k tk, e.2 = Value.str k tk ∧ k ∈ l) ∧ (D.1.toList.map fun e => strOf e.2).Perm l := by
  have h1 : ∀ e ∈ D.1.toList, ∃ k tk, e.2 = Value.str k tk ∧ k ∈ l := fun e he => by
    obtain ⟨⟨k, hk, _⟩, _⟩ := F.ok.el e he
    have hi : Value.isStrOf k e.2 = true := hk
    obtain ⟨hv, v⟩ := e
    cases v <;> simp [Value.isStrOf] at hi
    exact ⟨_, _, rfl, (F.ok.mem _).2 ⟨_, he, by subst hi; exact Froz.is_str _ _⟩⟩
  refine ⟨h1, ?_⟩
  have sub : ∀ k ∈ l, k ∈ D.1.toList.map fun e => strOf e.2 := fun k hk => by
    obtain ⟨e, he, hi⟩ := (F.ok.mem k).1 hk
    refine List.mem_map.mpr ⟨e, he, ?_⟩
    have hi : Value.isStrOf k e.2 = true := hi
    obtain ⟨hv, v⟩ := e
    cases v <;> simp [Value.isStrOf] at hi
    exact hi
  have len : (D.1.toList.map fun e => strOf e.2).length = l.length := by
    rw [List.length_map, Array.length_toList]
    exact F.ok.sz
  exact perm_same _ _ F.nd sub (Nat.le_of_eq len)
theorem sorted_set_text {a : Addr} {D : SD} {l : List Str} {Q : Value → Shared → Prop} (ho : s.heap.get? a = some (sObj "set" D)) (F : Tx P w D l) (hh : A.handled = none) (h64 : l.length < 64)
    (h : ∀ (s' : Shared) p (out : List Value) (c : Nat) (ys : List Str), (∀ b o, s.heap.get? b = some o → s'.heap.get? b = some o) → s'.gens = s.gens → s'.os = s.os → s.heap.objs.size ≤ p →
      s'.heap.get? p = some (seqObj "list" out.toArray c) → StrsAre out ys → ys.Perm l → sortedS ys = true → Q (.ref p) s') :
    wpAny (model P w) A (call (.builtin "sorted") [.ref a]) Q E s := by
  obtain ⟨v1, v2⟩ := F.vals
  have hsz : D.1.size = l.length := F.ok.sz
  refine Calls.call_function_entry kind_sorted plain_sorted entry_sorted (args_sorted1 _) ?_
  unfold Builtin.«sorted»
  refine wpAny_bind (m := checkCount "sorted" 1 1 _) (wpAny_pure ?_)
  refine wpAny_bind (collect_set (A := A.in1) (es := D.1) (ep := D.2.1) (t := D.2.2) hh ⟨_, ho, rfl, rfl⟩ F.ok.fit (by rw [hsz]; exact Nat.lt_trans h64 (by decide)) F.ris F.led fun s1 vs k1 z1 g1 o1 pm => ?_)
  have len : vs.length = l.length := by rw [pm.length_eq, List.length_map, Array.length_toList, hsz]
  have hS : StrsAre vs (vs.map strOf) := strs_of vs fun v hv => by
    obtain ⟨e, he, rfl⟩ := List.mem_map.mp (pm.mem_iff.mp hv)
    obtain ⟨k, tk, q, _⟩ := v1 e he
    exact ⟨k, tk, q⟩
  have pl : (vs.map strOf).Perm l := (pm.map strOf).trans (by rw [List.map_map]; exact v2)
  refine wpAny_bind (wpAny_newList ?_ (by rw [len, sizeLine_eq]; omega))
  have hL : (s1.heap.push (seqObj "list" vs.toArray 0)).get? s1.heap.objs.size = some (seqObj "list" vs.toArray 0) := Heap.get?_push_size _ rfl
  refine wpAny_bind (wpAny_holding (wpAny_call_entry slot_list_sort ⟨_, hL, rfl⟩ entry_list_sort
    (list_sort_treeK strKind_oneLt hL hS.keysOf (fun v₁ v₂ rest e => keyKind_strs (by rw [← e]; exact hS)) (by rw [len]; exact h64) fun st' hp hs => ⟨_, rfl, ?_⟩) (args_list_sort _)))
  obtain ⟨ys, y1, y2, y3⟩ := sorted_out_str hS hp hs
  obtain ⟨c, hc⟩ := sortedHeap_at (vs := vs) (out := (arrOf st').map (·.2)) hL
  refine wpAny_pure ⟨_, rfl, h _ s1.heap.objs.size _ c ys (fun b u e => ?_) g1 o1 z1 (by rw [Array.toArray_toList]; exact hc) y1 (y2.trans pl) y3⟩
  have q := k1 b u e
  have hb := Heap.lt_size q
  show (sortedHeap (s1.heap.push (seqObj "list" vs.toArray 0)) s1.heap.objs.size vs _).get? b = some u
  rw [sortedHeap_old (Nat.ne_of_lt hb) (by rw [size_push']; exact Nat.lt_succ_of_lt hb)]
  exact Heap.get?_push_of_some _ q
end
/-! ### the rules -/
def SetTx (P : Program) (w : World) (h : Heap) (a : Addr) (l : List Str) : Prop := ∃ D, h.get? a = some (sObj "set" D) ∧ Tx P w D l
def SetTxO (P : Program) (w : World) (a : Addr) (l : List Str) : HO := .ext fun h => SetTx P w h a l
section
variable {X : Cx}
theorem setTxO_new {P : Program} {w : World} {H : Hp} {h : Heap} {a : Addr} {l : List Str} (R : SetTx P w h a l) : ObjOk P w H h a (SetTxO P w a l) := by
  have ⟨D, ho, F⟩ := R
  exact ⟨R, ⟨_, ho⟩, fun h1 h2 z p => let ⟨D, e, F⟩ := z; ⟨D, p _ e, F⟩⟩
/-- a call of a built-in that lays one new object and moves nothing else -/
theorem laid_new {pins : List (Addr × Obj)} {σ : L2.St} {H : Hp} {s s' : Shared} {p : Addr} {o : HO} {Q : VK} (I : Inv X pins σ H s) (k : ∀ b u, s.heap.get? b = some u → s'.heap.get? b = some u) (g : s'.gens = s.gens) (ho : s'.os = s.os)
    (hp : s.heap.objs.size ≤ p) (new : ObjOk X.prog X.w (upd H p o) s'.heap p o) (q : H p = none → Q (.ref p) (upd H p o)) : EP X pins σ Q (.ref p) s' := by
  have hn : H p = none := I.hok.fresh hp
  exact ⟨.ref p, _, I.call' ho (ch := []) (Un.laid k hp hn) (I.hok.laid k hp new) (by rw [g]; exact I.bare) (fun _ z => nomatch z), rfl, q hn⟩
/-- set(text) -/
theorem cr_setText (hc : X.calm = true) : CallR X (.type "set") (fun xs H Q => ∃ x, xs = [.str x] ∧ x.length < 4000 ∧ ∀ a l, H a = none → l.Nodup → (∀ k, k ∈ l ↔ k ∈ parts x) → Q (.ref a) (upd H a (SetTxO X.prog X.w a l))) := by
  intro pins s σ H vs us Q I r h
  obtain ⟨x, rfl, hx, q⟩ := h
  obtain ⟨u, rfl, rx⟩ := vals1 r
  obtain ⟨tk, rfl⟩ := rx
  have hx : x.cps.size < 4000 := hx
  refine call_set_text (I.ok.hd hc) (Nat.lt_trans (Nat.succ_lt_succ hx) (by decide)) fun s' D l k g o hS F hm => ?_
  exact laid_new I k g o (Nat.le_refl _) (setTxO_new ⟨D, hS, F⟩) fun hn => q _ l hn F.nd hm
/-- sorted(set of texts) -/
theorem cr_sortedText (hc : X.calm = true) : CallR X (.builtin "sorted") (fun xs H Q => ∃ a l, xs = [.ref a] ∧ H a = some (SetTxO X.prog X.w a l) ∧ l.length < 64 ∧ ∀ ys p, ys.Perm l → sortedS ys = true → H p = none → Q (.ref p) (upd H p (.lst (ys.map .str)))) := by
  intro pins s σ H vs us Q I r h
  obtain ⟨a, l, rfl, ha, h64, q⟩ := h
  rw [Vals.ref1 r]
  obtain ⟨D, hS, F⟩ : SetTx X.prog X.w s.heap a l := (I.hok a _ ha).1
  refine sorted_set_text hS F (I.ok.hd hc) h64 fun s' p out c ys k g o hp hg hv pm so => ?_
  have len : (ys.map V.str).length ≤ sizeLine := by rw [List.length_map, pm.length_eq, sizeLine_eq]; omega
  have new : ObjOk X.prog X.w (upd H p (.lst (ys.map V.str))) s'.heap p (.lst (ys.map .str)) := ⟨len, out, c, vals_of_strs hv, hg⟩
  exact laid_new I k g o hp new fun hn => q ys p pm so hn
/-- list(text) -/
theorem cr_listText (hc : X.calm = true) : CallR X (.type "list") (fun xs H Q => ∃ x, xs = [.str x] ∧ x.length ≤ sizeLine ∧ ∀ p, H p = none → Q (.ref p) (upd H p (.lst ((parts x).map .str)))) := by
  intro pins s σ H vs us Q I r h
  obtain ⟨x, rfl, hx, q⟩ := h
  obtain ⟨u, rfl, rx⟩ := vals1 r
  obtain ⟨tk, rfl⟩ := rx
  have hx : x.cps.size ≤ sizeLine := hx
  refine call_list_str (I.ok.hd hc) x tk (hn := hx) fun h' t' acc c k hS it => ?_
  have hv : StrsAre acc.toList (parts x) := by
    have st := strs_of acc.toList fun v hv => by
      obtain ⟨i, hi, e⟩ := List.getElem_of_mem hv
      obtain ⟨c, u, _, q⟩ := it.2 i v (by rw [← Array.getElem?_toList, List.getElem?_eq_getElem hi, e])
      exact ⟨_, u, q⟩
    have e : acc.toList.map strOf = parts x := by
      apply List.ext_getElem?
      intro i
      rw [List.getElem?_map, List.getElem?_map, Array.getElem?_toList, Array.getElem?_toList]
      cases ha : acc[i]? with
      | none =>
        have z : x.cps[i]? = none := by
          have z1 := Array.getElem?_eq_none_iff.mp ha
          rw [it.1] at z1
          exact Array.getElem?_eq_none_iff.mpr z1
        rw [z]; rfl
      | some v =>
        obtain ⟨c, u, h1, h2⟩ := it.2 i v ha
        rw [h1, h2]; rfl
    rw [e] at st
    exact st
  have len : ((parts x).map V.str).length ≤ sizeLine := by
    rw [List.length_map, List.length_map, Array.length_toList]
    exact hx
  have new : ObjOk X.prog X.w (upd H s.heap.objs.size (.lst ((parts x).map V.str))) h' s.heap.objs.size (.lst ((parts x).map .str)) := ⟨len, acc.toList, c, vals_of_strs hv, by rw [Array.toArray_toList]; exact hS⟩
  exact laid_new (s' := { s with heap := h', toks := t' }) I k rfl rfl (Nat.le_refl _) new (q _)
end
end Vs

set_option Elab.async false
set_option linter.all false
set_option maxRecDepth 100000
set_option maxHeartbeats 4000000
namespace L2
namespace Vx
open PySem PySem.Spec PyProof.Rows
/-! ### a def that is called where no repr is under way (so that repr may be called in it) -/
structure FnG (P : Program) (w : World) (K : PySem.W.Frag) (mg : Str → Option Value) (base : Heap) (k : Nat) (f : Addr) (fd : FuncData) (ps : List Str) (sp : Sp) : Prop where
  run : ∀ (A : Around) (outer : List Env) (s : Shared) (H : Hp) (args : Args) (us : List Value) (vs : List V) (Q : VK) (E : XK), Room k A → A.guards = some [] → Env0 P w K mg base A outer s H → BindsTo s fd args (ps.zip us) → Vals vs us → sp vs H Q E →
    codeAny (model P w) A (.call (.ref f) args) (CR CX0 outer P w H s Q E) s
section
variable {P : Program} {w : World} {K : PySem.W.Frag} {mg : Str → Option Value} {base : Heap}
theorem FunG {x qual : Str} {st : Stmt} {f : Addr} {fd : FuncData} {N ps : List Str} {k : Nat} {sp : Sp} (F : Fun K x qual st f fd) (S : FnScope N ps (defScope st)) (len : ∀ vs H Q E, sp vs H Q E → vs.length = ps.length)
    (hbody : ∀ (cdv : Value) (A : Around) (outer : List Env) (s : Shared) (H : Hp) (vs : List V) (Q : VK) (E : XK), Room k (A.deeper (envOfC qual (defScope st) s.heap.objs.size f cdv)) → A.guards = some [] → sp vs H Q E →
      ∃ t, PSs (cxOf CX0 P w K mg base N qual (defScope st) f cdv A outer s H E).nox (defBody st) t ∧ t { nx := fun _ H' => Q .non H', rt := Q } (start N vs) H) : FnG P w K mg base (k + 1) f fd ps sp := by
  obtain ⟨oc, od, kV, doc, pm, an, cdv, ct, osl, rfl, lk, hcd⟩ := F.ex
  refine ⟨fun A outer s H args us vs Q E hr hgd e0 hb r hsp => ?_⟩
  obtain ⟨t, ht0, hq⟩ := hbody cdv A outer s H vs Q E (hr.deeper _) hgd hsp
  have ht := ht0.nox
  have hl := len _ _ _ _ hsp
  have KX : K.In s.heap := e0.mod.kin.keeps fun b o e => (e0.bs b o e).1
  have lim : s.heap.NoLimit := e0.mod.nolimit.keeps fun b o e => (e0.bs b o e).1
  have hkind : ∀ y ∈ ps.zip us, (defScope st).names.lookup y.1 = some .local ∨ ((defScope st).names.lookup y.1 = some .cell ∧ ((cellsFrom (s.heap.objs.size + 1) (defScope st).names []).lookup y.1).isSome = true) := by
    rintro ⟨n, v⟩ hy
    rcases S.par n (List.of_mem_zip hy).1 with q | q
    · exact .inl q
    · exact .inr ⟨q, PySem.W.cellsFrom_some _ _ _ (.inl q)⟩
  refine codeAny_call_function hr.depth (KX _ _ lk) rfl S.co S.gen rfl (PySem.W.codeRec_of KX hcd) (hb _ _ _ _ ?_)
  refine wpAny_newFunctionEnv_cells S.kind hkind fun env he s1 x => ?_
  subst he
  refine ⟨lim.keeps x.toInCall.keep, codeAny_func ?_⟩
  have I := inv_start (CX := CX0) (E := E) S hr.hd e0 hl r x
  refine wpAny_mono (ht.run [] s1 (start N vs) H _ I hq) (fun fl s' hs => ?_) fun e s' hs => hs
  cases fl with
  | ret u =>
    obtain ⟨v, σ', H', J, rv, q⟩ := hs
    exact ⟨v, H', J.os, J.bare, J.base, J.hok, rv, q⟩
  | next =>
    obtain ⟨σ', H', J, q⟩ := hs
    exact ⟨V.non, H', J.os, J.bare, J.base, J.hok, rfl, q⟩
  | brk => obtain ⟨_, _, _, q⟩ := hs; exact q.elim
  | cont => obtain ⟨_, _, _, q⟩ := hs; exact q.elim
theorem law_callG {mb : Str → Option Value} {k : Nat} {fa a : Addr} {fd : FuncData} {x : Str} {sp : Sp} {s₁ : Shared} {vs : List Value} {ns : List Int}
    (KX : K.In s₁.heap) (hns : s₁.heap.Ns mainGlobals mg) (hb : s₁.heap.Ns builtinsNs mb) (hbb : ∀ x : Str, x ≠ "__name__" → mb x = bootBuiltins x) (hlim : s₁.heap.NoLimit) (hg : s₁.gens = #[])
    (ha : s₁.heap.get? a = some { cls := .type "list", data := .seq vs.toArray }) (hi : IntsAre vs ns) (hl : ns.length ≤ sizeLine) (hr : Room k callerA)
    (F : ∀ base : Heap, K.In base → base.Ns mainGlobals mg → FnG P w K mg base k fa fd [x] sp) (hbind : ∀ (s : Shared) (u : Value), BindsTo s fd ⟨[u], []⟩ [(x, u)])
    (hsp : ∀ H : Hp, Only H → SqL K H a (ns.map V.int) → sp [.ref a] H (fun v _ => v = .bl true) fun _ _ _ => False) :
    codeAny (model P w) callerA (.call (.ref fa) ⟨[.ref a], []⟩) (fun r s' => r = .ok (.ret (.bool true)) ∧ OldK s₁.heap s'.heap ∧ s'.os = s₁.os ∧ AllBare s'.gens) s₁ := by
  have rv := vals_ints hi
  have lenV := hi.length
  have core : ∀ H : Hp, Only H → SqL K H a (ns.map V.int) → HOk P w H s₁.heap → (∀ b, H b ≠ none → b = a) → (H a ≠ none → K.lookup a = none) →
      codeAny (model P w) callerA (.call (.ref fa) ⟨[.ref a], []⟩) (fun r s' => r = .ok (.ret (.bool true)) ∧ OldK s₁.heap s'.heap ∧ s'.os = s₁.os ∧ AllBare s'.gens) s₁ := by
    intro H hO hS hok hA hK
    have only : ∀ {b : Addr} {u : HO}, H b = some u → b = a := fun {b u} q => hA b (by rw [q]; exact fun z => nomatch z)
    have nsK : ∀ {b : Addr} {m : Str → Option Value}, s₁.heap.Ns b m → (hidT s₁.heap H).Ns b m := by
      rintro b m ⟨o, es, ep, e, d, r⟩
      refine ⟨o, es, ep, hidT_get e ?_, d, r⟩
      cases q : H b with
      | none => rfl
      | some u =>
        obtain rfl := only q
        rw [ha] at e
        cases e
        exact nomatch (show Data.seq vs.toArray _ = Data.dict es ep from d)
    have hKb : K.In (hidT s₁.heap H) := by
      intro b o e
      refine hidT_get (KX b o e) ?_
      cases q : H b with
      | none => rfl
      | some u =>
        obtain rfl := only q
        rw [hK (by rw [q]; exact fun z => nomatch z)] at e
        cases e
    have hM : Mod K mg (hidT s₁.heap H) := ⟨hKb, nsK hns, ⟨mb, nsK hb, hbb⟩, let ⟨mc, h1, h2⟩ := hlim; ⟨mc, nsK h1, h2⟩⟩
    have e0 : Env0 P w K mg (hidT s₁.heap H) callerA [] s₁ H :=
      ⟨rfl, hM, fun b o e => of_hidT e, Nat.le_of_eq (hidT_size _ _), trivial, fun b hb => absurd (show b ∈ ([] : List Addr) from hb) (by simp), hok, .of_eq hg⟩
    refine codeAny_mono ((F _ hKb (nsK hns)).run callerA [] s₁ H ⟨[.ref a], []⟩ [.ref a] [.ref a] _ _ hr rfl e0 (hbind s₁ (.ref a)) (.cons rfl .nil) (hsp H hO hS)) fun r s' h => ?_
    cases r with
    | error e => exact (show False from h).elim
    | ok fl =>
      cases fl with
      | next => exact False.elim h
      | brk => exact False.elim h
      | cont => exact False.elim h
      | ret u =>
        obtain ⟨v, H', os, bare, un, hok', r', q⟩ := h
        obtain rfl : v = .bl true := q
        obtain rfl : u = Value.bool true := r'
        refine ⟨rfl, OldK.of_keep fun b o e => ?_, os, bare⟩
        cases q : H b with
        | none => exact un.keep b o e q (fun z => absurd (show b ∈ ([] : List Addr) from z) (by simp)) (by simp)
        | some u =>
          rcases hO b with z | ⟨ob, xs, z⟩
          · rw [q] at z; cases z
          · obtain ⟨e1, _⟩ := hok b _ z
            obtain ⟨e2, _⟩ := hok' b _ (un.frzs b ob _ z)
            rw [e] at e1
            cases e1
            exact e2
  cases hk : K.lookup a with
  | some o =>
    have e := KX a o hk
    rw [ha] at e
    cases e
    exact core (fun _ => none) (fun _ => .inl rfl) (.inr ⟨_, vs.toArray, _, hk, rfl, rfl, rfl, by rw [List.size_toArray, lenV]; exact hl, by simpa using rv⟩) (fun b u z => nomatch (show (none : Option HO) = some u from z)) (fun b z => absurd rfl z) fun z => absurd rfl z
  | none =>
    have at_a : (fun b => if b = a then some (HO.frz { cls := .type "list", data := .seq vs.toArray } (.lst (ns.map V.int))) else none) a = some (.frz { cls := .type "list", data := .seq vs.toArray } (.lst (ns.map V.int))) := if_pos rfl
    refine core (fun b => if b = a then some (.frz { cls := .type "list", data := .seq vs.toArray } (.lst (ns.map V.int))) else none) (fun b => ?_) (.inl (.inr ⟨_, at_a⟩)) (fun b u z => ?_) (fun b z => ?_) fun _ => hk
    · by_cases hb : b = a
      · exact .inr ⟨_, _, if_pos hb⟩
      · exact .inl (if_neg hb)
    · by_cases hb : b = a
      · cases (if_pos hb).symm.trans z
        subst hb
        exact ⟨ha, by rw [List.length_map]; exact hl, vs, _, rv, ha⟩
      · cases (if_neg hb).symm.trans z
    · by_cases hb : b = a
      · exact hb
      · exact absurd (if_neg hb) z
end
theorem walk_ofG {l : PySem.W.OpenLaw} {n k : Nat} {q : Program} {loose : List Str} {XP : (Str → Option Value) → Heap → Prop} {YP : World → Heap → Prop} {d : DefRec} {K : Params → PySem.W.Frag} {sp : World → Sp} {x : Str}
    (hn : l.most = some n) (hn2 : n ≤ sizeLine) (hdf : d.params.defaults = []) (hr : Room k callerA) (hY : ∀ (w : World) (h : Heap), YP w h → (K w.params).In h)
    (F : ∀ (w : World) (mg : Str → Option Value) (fa : Addr) (h : Heap), (K w.params).In h → h.Ns mainGlobals mg → mg d.name = some (.ref fa) →
      ∃ fd : FuncData, (∀ (s : Shared) (u : Value), BindsTo s fd ⟨[u], []⟩ [(x, u)]) ∧ ∀ base : Heap, (K w.params).In base → base.Ns mainGlobals mg → FnG l.prog w (K w.params) mg base k fa fd [x] (sp w))
    (hsp : ∀ (w : World) (H : Hp) (a : Addr) (ns : List Int), ns.length ≤ n → Only H → SqL (K w.params) H a (ns.map V.int) → sp w [.ref a] H (fun v _ => v = .bl true) fun _ _ _ => False) :
    PySem.W.WalkO q loose XP YP l.row.toRowW d [] (fun f vs => PySem.call f vs) := by
  refine Att.attach_call hn hdf fun w s₀ s₁ mg mb fa o pm cd doc a vs ns G Y ho hd hcd hmg hobj hints hlen hg => ?_
  have KX := hY w _ Y
  obtain ⟨fd, hb, hF⟩ := F w mg fa _ KX G.T.g hmg
  exact law_callG KX G.T.g G.T.b G.T.builtins G.T.nolimit hg hobj hints (Nat.le_trans hlen hn2) hr hF hb (fun H hO hS => hsp w H a ns hlen hO hS)
end Vx
end L2

set_option Elab.async false
set_option linter.all false
set_option maxRecDepth 100000
set_option maxHeartbeats 4000000
/-! ### values that can be shown: repr of any of them, whatever stands in sys.modules' place -/
namespace PySem
namespace Vr
section
mutual
inductive RdX (h : Heap) : Value → PyData → Prop
  | leaf {v d} (r : Reads h v d []) : RdX h v d
  | list {a o vs n xs} : h.get? a = some o → o.cls = .type "list" → o.data = .seq vs n → RdXAll h vs.toList xs → RdX h (.ref a) (.list xs)
  | tuple {a o vs n xs} : h.get? a = some o → o.cls = .type "tuple" → o.data = .seq vs n → RdXAll h vs.toList xs → RdX h (.ref a) (.tuple xs)
  | dict {a o es n kvs} : h.get? a = some o → o.cls = .type "dict" → o.data = .dict es n → ReadsAll h (es.toList.map (·.key)) (kvs.map (·.1)) [] → ReadsAll h (es.toList.map (·.val)) (kvs.map (·.2)) [] → (a == sysModules) = false → RdX h (.ref a) (.dict kvs)
inductive RdXAll (h : Heap) : List Value → List PyData → Prop
  | nil : RdXAll h [] []
  | cons {v vs d ds} : RdX h v d → RdXAll h vs ds → RdXAll h (v :: vs) (d :: ds)
end
mutual
theorem RdX.reads {h : Heap} : ∀ {v : Value} {d : PyData}, RdX h v d → ∃ as, Reads h v d as
  | _, _, .leaf r => ⟨[], r⟩
  | _, _, .list h1 h2 h3 h4 => let ⟨as, r⟩ := RdXAll.reads h4; ⟨_, .list h1 h2 h3 r⟩
  | _, _, .tuple h1 h2 h3 h4 => let ⟨as, r⟩ := RdXAll.reads h4; ⟨_, .tuple h1 h2 h3 r⟩
  | _, _, .dict h1 h2 h3 h4 h5 _ => ⟨_, .dict h1 h2 h3 h4 h5⟩
theorem RdXAll.reads {h : Heap} : ∀ {vs : List Value} {ds : List PyData}, RdXAll h vs ds → ∃ as, ReadsAll h vs ds as
  | _, _, .nil => ⟨[], .nil⟩
  | _, _, .cons r rs => let ⟨as, q⟩ := RdX.reads r; let ⟨bs, qs⟩ := RdXAll.reads rs; ⟨_, .cons q qs⟩
end
variable {prog : Program} {w : World} {h₀ : Heap}
theorem dict_parts {a : Addr} {o : Obj} {es : Array DictEntry} {n : Nat} {kvs : List (PyData × PyData)} (h1 : h₀.get? a = some o) (h2 : o.cls = .type "dict") (h3 : o.data = .dict es n) (h4 : ReadsAll h₀ (es.toList.map (·.key)) (kvs.map (·.1)) [])
    (h5 : ReadsAll h₀ (es.toList.map (·.val)) (kvs.map (·.2)) []) (hs : PyData.showableKv kvs = true) (hz : (dictText (PyData.shownKv kvs)).length ≤ sizeLine) :
    ∃ bs, a ∉ bs ∧ ReadAtMost h₀ (PyData.depthKv kvs) bs ∧ ReprEntriesK prog w bs h₀ (PyData.depthKv kvs) es.toList (PyData.shownKv kvs) := by
  obtain ⟨s1, s2⟩ := PyData.showableKv_split kvs hs
  have no : sysModules ∉ ([] : List Addr) := fun z => nomatch z
  obtain ⟨b1, g1, k1⟩ := ReprAllK.of_readsAll (prog := prog) (w := w) h4 s1 (fun _ => no) fun t ht => by
    obtain ⟨p, hp, hl⟩ := PyData.shownKv_key_le kvs t ht
    exact Nat.le_trans hl (Nat.le_trans (dictText_mem_le hp) hz)
  obtain ⟨b2, g2, k2⟩ := ReprAllK.of_readsAll (prog := prog) (w := w) h5 s2 (fun _ => no) fun t ht => by
    obtain ⟨p, hp, hl⟩ := PyData.shownKv_val_le kvs t ht
    exact Nat.le_trans hl (Nat.le_trans (dictText_mem_le hp) hz)
  have g : ReadAtMost h₀ (PyData.depthKv kvs) (b1 ++ b2) := (g1.mono (PyData.depthAll_keys_le kvs)).append (g2.mono (PyData.depthAll_vals_le kvs))
  refine ⟨b1 ++ b2, not_mem_of_deeper (.dict h1 h2 h3 h4 h5) (by simp only [PyData.depth]; omega) g, g, ?_⟩
  rw [PyData.shownKv_eq]
  exact ReprEntriesK.of_two es.toList _ _ (k1.more_le (fun b hb => List.mem_append_left _ hb) (PyData.depthAll_keys_le kvs)) (k2.more_le (fun b hb => List.mem_append_right _ hb) (PyData.depthAll_vals_le kvs))
mutual
theorem reprK_of : ∀ {v : Value} {d : PyData}, RdX h₀ v d → d.showable = true → d.shown.length ≤ sizeLine → ∃ bs, ReadAtMost h₀ d.depth bs ∧ ReprK prog w bs h₀ d.depth v d.shown
  | _, _, .leaf r, hs, hz => ReprK.of_reads r hs (fun _ z => nomatch z) hz
  | _, _, .list (a := a) (vs := vs) (xs := xs) h1 h2 h3 h4, hs, hz => by
    simp only [PyData.shown] at hz
    obtain ⟨bs, g, k⟩ := reprAllK_of h4 (by simpa [PyData.showable] using hs) fun t ht => Nat.le_trans (listText_mem_le ht) hz
    obtain ⟨as, r⟩ := RdX.reads (.list h1 h2 h3 h4)
    refine ⟨a :: bs, ReadAtMost.cons r (by simp only [PyData.depth]; omega) g, ?_⟩
    have na : a ∉ bs := not_mem_of_deeper r (by simp only [PyData.depth]; omega) g
    simp only [PyData.depth, PyData.shown]
    obtain ⟨l⟩ := vs
    cases l with
    | nil =>
      cases (show RdXAll h₀ [] xs from h4)
      simp only [PyData.shownAll, listText_nil]
      exact ReprK.listEmpty h1 h2 h3
    | cons x l => exact ReprK.list h1 h2 h3 na (by simpa using k.length_eq) fun i y e => k.item i y (by simpa using e)
  | _, _, .tuple (a := a) (xs := xs) h1 h2 h3 h4, hs, hz => by
    simp only [PyData.shown] at hz
    obtain ⟨bs, g, k⟩ := reprAllK_of h4 (by simpa [PyData.showable] using hs) fun t ht => Nat.le_trans (tupleText_mem_le ht) hz
    obtain ⟨as, r⟩ := RdX.reads (.tuple h1 h2 h3 h4)
    refine ⟨a :: bs, ReadAtMost.cons r (by simp only [PyData.depth]; omega) g, ?_⟩
    simp only [PyData.depth, PyData.shown]
    exact ReprK.tuple h1 h2 h3 (not_mem_of_deeper r (by simp only [PyData.depth]; omega) g) k
  | _, _, .dict (a := a) (kvs := kvs) h1 h2 h3 h4 h5 h6, hs, hz => by
    simp only [PyData.shown] at hz
    obtain ⟨bs, na, g, k⟩ := dict_parts (prog := prog) (w := w) h1 h2 h3 h4 h5 (by simpa [PyData.showable] using hs) hz
    refine ⟨a :: bs, ReadAtMost.cons (.dict h1 h2 h3 h4 h5) (by simp only [PyData.depth]; omega) g, ?_⟩
    simp only [PyData.depth, PyData.shown]
    exact ReprK.dict h1 h2 h3 h6 na k
theorem reprAllK_of : ∀ {vs : List Value} {ds : List PyData}, RdXAll h₀ vs ds → PyData.showableAll ds = true → (∀ t ∈ PyData.shownAll ds, t.length ≤ sizeLine) →
    ∃ bs, ReadAtMost h₀ (PyData.depthAll ds) bs ∧ ReprAllK prog w bs h₀ (PyData.depthAll ds) vs (PyData.shownAll ds)
  | _, _, .nil, _, _ => ⟨[], (fun _ h => nomatch h), by simp only [PyData.shownAll]; exact .nil⟩
  | _, _, .cons (d := d) (ds := ds) r rs, hs, hz => by
    have hs' : d.showable = true ∧ PyData.showableAll ds = true := by simpa [PyData.showableAll] using hs
    obtain ⟨b1, g1, k1⟩ := reprK_of r hs'.1 (hz _ (by simp only [PyData.shownAll]; exact List.mem_cons_self ..))
    obtain ⟨b2, g2, k2⟩ := reprAllK_of rs hs'.2 (fun t ht => hz t (by simp only [PyData.shownAll]; exact List.mem_cons_of_mem _ ht))
    refine ⟨b1 ++ b2, fun b hm => ?_, ?_⟩
    · simp only [PyData.depthAll]
      rcases List.mem_append.mp hm with hm | hm
      · obtain ⟨d', as', r', hd'⟩ := g1 b hm
        exact ⟨d', as', r', Nat.le_trans hd' (Nat.le_max_left _ _)⟩
      · obtain ⟨d', as', r', hd'⟩ := g2 b hm
        exact ⟨d', as', r', Nat.le_trans hd' (Nat.le_max_right _ _)⟩
    · simp only [PyData.depthAll, PyData.shownAll]
      exact .cons ((k1.more fun b hb => List.mem_append_left _ hb).level_le (Nat.le_max_left _ _)) (k2.more_le (fun b hb => List.mem_append_right _ hb) (Nat.le_max_right _ _))
end
/-- repr(v) -/
theorem repr_call {s : Shared} {A : Around} {E : Value → Shared → Prop} {Q : Value → Shared → Prop} {v : Value} {d : PyData} (r : RdX s.heap v d) (hs : d.showable = true) (hz : d.shown.length ≤ sizeLine) (hg : A.guards = some []) (hu : A.units + (d.depth + 1) < cLine)
    (hQ : ∀ h' u tk, (∀ b o, s.heap.get? b = some o → h'.get? b = some o) → Q (.str d.shown u) { s with heap := h', toks := tk }) : wpAny (model prog w) A (call (.builtin "repr") [v]) Q E s := by
  have hu' : A.in1.units + d.depth < cLine := by
    show A.units + 1 + d.depth < cLine
    omega
  have keep : ∀ b o, s.heap.get? b = some o → s.heap.get? b = some o := fun _ _ e => e
  cases r with
  | leaf r =>
    cases r with
    | none => simp only [PyData.shown] at hQ; exact P.repr_of_none (hQ s.heap _ _ keep)
    | bool b => simp only [PyData.shown] at hQ; exact P.repr_of_bool (hQ s.heap _ _ keep)
    | int i t => simp only [PyData.shown] at hQ; exact P.repr_of_int (by simpa [PyData.showable] using hs) (hQ s.heap _ _ keep)
    | str x t => simp only [PyData.shown] at hQ hz; exact P.repr_of_str (hQ s.heap _ _ keep) hz
    | tuple h1 h2 h3 h4 => exact repr_of_reads' (.tuple h1 h2 h3 h4) hs (fun _ z => nomatch z) hg hu keep (fun h' u tk k => hQ h' u tk k) hz
  | list h1 h2 h3 h4 =>
    rename_i a o vs n xs
    obtain ⟨as, r⟩ := RdX.reads (.list h1 h2 h3 h4)
    simp only [PyData.shown] at hQ hz
    obtain ⟨bs, g, k⟩ := reprAllK_of (prog := prog) (w := w) h4 (by simpa [PyData.showable] using hs) fun t ht => Nat.le_trans (listText_mem_le ht) hz
    have na : a ∉ bs := not_mem_of_deeper r (by simp only [PyData.depth]; omega) g
    simp only [PyData.depth] at hu'
    refine call_repr_slot (T := "list") (idr := "list.__repr__") (by omega) ⟨o, h1, h2⟩ F.slot_list_repr.toG ?_
    obtain ⟨l⟩ := vs
    cases l with
    | nil =>
      cases (show RdXAll s.heap [] xs from h4)
      simp only [PyData.shownAll, listText_nil] at hQ
      exact call_list_repr_empty ⟨o, h1, h2⟩ h1 h3 ⟨_, _, rfl, hQ s.heap _ _ keep⟩
    | cons x l => exact call_list_reprK h1 h2 h3 na (by simpa using k.length_eq) (fun i y e => k.item i y (by simpa using e)) hg (fun b _ => Clear.nil b) hu' keep (fun h' u tk kk => ⟨_, _, rfl, hQ h' u tk kk⟩) hz
  | tuple h1 h2 h3 h4 =>
    rename_i a o vs n xs
    obtain ⟨as, r⟩ := RdX.reads (.tuple h1 h2 h3 h4)
    simp only [PyData.shown] at hQ hz
    obtain ⟨bs, g, k⟩ := reprAllK_of (prog := prog) (w := w) h4 (by simpa [PyData.showable] using hs) fun t ht => Nat.le_trans (tupleText_mem_le ht) hz
    have na : a ∉ bs := not_mem_of_deeper r (by simp only [PyData.depth]; omega) g
    simp only [PyData.depth] at hu'
    exact call_repr_slot (T := "tuple") (idr := "tuple.__repr__") (by omega) ⟨o, h1, h2⟩ F.slot_tuple_repr
      (call_tuple_reprK h1 h2 h3 na k hg (fun b _ => Clear.nil b) hu' keep (fun h' u tk kk => ⟨_, _, rfl, hQ h' u tk kk⟩) hz)
  | dict h1 h2 h3 h4 h5 h6 =>
    simp only [PyData.shown] at hQ hz
    obtain ⟨bs, na, g, k⟩ := dict_parts (prog := prog) (w := w) h1 h2 h3 h4 h5 (by simpa [PyData.showable] using hs) hz
    simp only [PyData.depth] at hu'
    exact call_repr_slot (T := "dict") (idr := "dict.__repr__") (by omega) ⟨_, h1, h2⟩ F.slot_dict_repr
      (call_dict_reprK h1 h2 h3 h6 na k hg (fun b _ => Clear.nil b) hu' keep (fun h' u tk kk => ⟨_, _, rfl, hQ h' u tk kk⟩) hz)
end
end Vr
end PySem

set_option Elab.async false
set_option linter.all false
set_option maxRecDepth 100000
set_option maxHeartbeats 4000000
namespace L2
namespace Vx
open PySem PySem.Spec PyProof.Rows PySem.Vr
/-! ### values as data: trees of lists and tuples over flat things; a dict holds flat things alone; S: where they may stand -/
def FlatD : V → PyData → Prop
  | .non, d => d = .none
  | .bl b, d => d = .bool b
  | .int i, d => d = .int i
  | .str x, d => d = .str x
  | _, _ => False
def kD : Key → PyData
  | .inl i => .int i
  | .inr x => .str x
inductive FlatP : List (Key × V) → List (PyData × PyData) → Prop
  | nil : FlatP [] []
  | cons {k : Key} {v : V} {d : PyData} {r : List (Key × V)} {ds : List (PyData × PyData)} : FlatD v d → FlatP r ds → FlatP ((k, v) :: r) ((kD k, d) :: ds)
section
mutual
inductive Dt (H : Hp) (S : Addr → Prop) : V → PyData → Prop
  | flat {v d} : FlatD v d → Dt H S v d
  | lst {a xs ds} : H a = some (.lst xs) → S a → DtAll H S xs ds → Dt H S (.ref a) (.list ds)
  | tup {a xs ds} : H a = some (.tup xs) → S a → DtAll H S xs ds → Dt H S (.ref a) (.tuple ds)
  | dct {a kvs ds} : H a = some (.dK kvs) → S a → FlatP kvs ds → Dt H S (.ref a) (.dict ds)
inductive DtAll (H : Hp) (S : Addr → Prop) : List V → List PyData → Prop
  | nil : DtAll H S [] []
  | cons {v vs d ds} : Dt H S v d → DtAll H S vs ds → DtAll H S (v :: vs) (d :: ds)
end
mutual
theorem Dt.mono {H H' : Hp} {S S' : Addr → Prop} (k : ∀ a o, S a → H a = some o → H' a = some o) (ks : ∀ a o, S a → H a = some o → S' a) : ∀ {v : V} {d : PyData}, Dt H S v d → Dt H' S' v d
  | _, _, .flat h => .flat h
  | _, _, .lst h s r => .lst (k _ _ s h) (ks _ _ s h) (DtAll.mono k ks r)
  | _, _, .tup h s r => .tup (k _ _ s h) (ks _ _ s h) (DtAll.mono k ks r)
  | _, _, .dct h s r => .dct (k _ _ s h) (ks _ _ s h) r
theorem DtAll.mono {H H' : Hp} {S S' : Addr → Prop} (k : ∀ a o, S a → H a = some o → H' a = some o) (ks : ∀ a o, S a → H a = some o → S' a) : ∀ {vs : List V} {ds : List PyData}, DtAll H S vs ds → DtAll H' S' vs ds
  | _, _, .nil => .nil
  | _, _, .cons h r => .cons (Dt.mono k ks h) (DtAll.mono k ks r)
end
theorem DtAll.append {H : Hp} {S : Addr → Prop} : ∀ {vs ws : List V} {ds es : List PyData}, DtAll H S vs ds → DtAll H S ws es → DtAll H S (vs ++ ws) (ds ++ es)
  | _, _, _, _, .nil, r => r
  | _, _, _, _, .cons h t, r => .cons h (DtAll.append t r)
theorem FlatD.reads {h : Heap} {v : V} {u : Value} {d : PyData} (f : FlatD v d) (r : RelV v u) : Reads h u d [] := by
  cases v with
  | non => cases (show d = .none from f); cases (show u = Value.none from r); exact .none
  | bl b => cases (show d = .bool b from f); cases (show u = Value.bool b from r); exact .bool b
  | int i => cases (show d = .int i from f); obtain ⟨t, rfl⟩ := (show ∃ t, u = Value.int i t from r); exact .int i t
  | str x => cases (show d = .str x from f); obtain ⟨t, rfl⟩ := (show ∃ t, u = Value.str x t from r); exact .str x t
  | byt b => exact (show False from f).elim
  | flt b => exact (show False from f).elim
  | ref b => exact (show False from f).elim
  | ty b => exact (show False from f).elim
theorem readsAll_cons0 {h : Heap} {v : Value} {vs : List Value} {d : PyData} {ds : List PyData} (a : Reads h v d []) (b : ReadsAll h vs ds []) : ReadsAll h (v :: vs) (d :: ds) [] := .cons (as := []) (bs := []) a b
theorem flatP_reads {P : Program} {w : World} {h : Heap} : ∀ {kvs : List (Key × V)} {ds : List (PyData × PyData)} {vs : List (Key × Value)} {es : List DictEntry}, FlatP kvs ds → KV kvs vs → Pairs (mixKind P w) es vs →
    ReadsAll h (es.map (·.key)) (ds.map (·.1)) [] ∧ ReadsAll h (es.map (·.val)) (ds.map (·.2)) []
  | _, _, _, _, .nil, .nil, .nil => ⟨.nil, .nil⟩
  | _, _, _, _, .cons (k := k) f fr, .cons ⟨ek, rv⟩ rr, .cons (e := e0) hk hv hp => by
    obtain ⟨i1, i2⟩ := flatP_reads fr rr hp
    refine ⟨readsAll_cons0 ?_ i1, readsAll_cons0 ?_ i2⟩
    · have hk' : keyIs k e0.key = true := by rw [show k = _ from ek]; exact hk
      rcases keyIs_shape hk' with ⟨i, t, rfl, e⟩ | ⟨x, t, rfl, e⟩
      · show Reads h e0.key (.int i) []
        rw [e]
        exact .int i t
      · show Reads h e0.key (.str x) []
        rw [e]
        exact .str x t
    · exact f.reads (show RelV _ e0.val by rw [hv]; exact rv)
end
section
variable {X : Cx} {pins : List (Addr × Obj)} {σ : L2.St} {H : Hp} {s : Shared} {S : Addr → Prop}
mutual
theorem Dt.rd (I : Inv X pins σ H s) : ∀ {v : V} {d : PyData}, Dt H S v d → ∀ {u : Value}, RelV v u → RdX s.heap u d
  | _, _, .flat f, u, r => .leaf (f.reads r)
  | _, _, .lst (a := a) (xs := xs) h _ q, u, r => by
    cases (show u = Value.ref a from r)
    obtain ⟨_, its, n, rv, e⟩ := (show ObjOk X.prog X.w H s.heap a (.lst xs) from I.hok a _ h)
    exact .list e rfl rfl (DtAll.rd I q rv)
  | _, _, .tup (a := a) (xs := xs) h _ q, u, r => by
    cases (show u = Value.ref a from r)
    obtain ⟨_, its, rv, o, e, c, n, dt⟩ := (show ObjOk X.prog X.w H s.heap a (.tup xs) from I.hok a _ h)
    exact .tuple e c dt (DtAll.rd I q rv)
  | _, _, .dct (a := a) (kvs := kvs) h _ q, u, r => by
    cases (show u = Value.ref a from r)
    obtain ⟨_, hm, vs, rel, o, es, ep, e, hx, hd, _, hp, _⟩ := (show ObjOk X.prog X.w H s.heap a (.dK kvs) from I.hok a _ h)
    obtain ⟨i1, i2⟩ := flatP_reads (h := s.heap) q rel hp
    exact .dict e hx.1 hd i1 i2 hm
theorem DtAll.rd (I : Inv X pins σ H s) : ∀ {vs : List V} {ds : List PyData}, DtAll H S vs ds → ∀ {us : List Value}, Vals vs us → RdXAll s.heap us ds
  | _, _, .nil, _, .nil => .nil
  | _, _, .cons h q, _, .cons r rr => .cons (Dt.rd I h r) (DtAll.rd I q rr)
end
/-- a datum that repr can show -/
structure Shows (d : PyData) : Prop where
  sh : d.showable = true
  len : d.shown.length ≤ 1000000
  dep : d.depth ≤ 60
def rRep (S : Addr → Prop) : List V → Hp → VK → Prop := fun xs H Q => ∃ v d, xs = [v] ∧ Dt H S v d ∧ Shows d ∧ Q (.str d.shown) H
theorem call_rep (hg : X.A.guards = some []) (hu : X.A.units + 100 < cLine) (S : Addr → Prop) : CallR X (.builtin "repr") (rRep S) := by
  intro pins s σ H xs us Q I r h
  obtain ⟨v, d, rfl, hd, z, q⟩ := h
  cases r with
  | cons rv rn =>
    cases rn
    have hl : d.shown.length ≤ sizeLine := Nat.le_trans z.len (by rw [sizeLine_eq]; decide)
    have hdp := z.dep
    exact repr_call (hd.rd I rv) z.sh hl hg (by omega) fun h' u tk k => ⟨.str d.shown, H, I.kept (t' := tk) k, ⟨_, rfl⟩, q⟩
end
end Vx
end L2

set_option Elab.async false
set_option linter.all false
set_option maxRecDepth 100000
set_option maxHeartbeats 4000000
namespace Vf
open PySem PySem.Spec PyProof.Rows L2
/-! ### the text by places -/
def top (i : Nat) : Stmt := PySem.Challenge.pw_piecesseen_k23_judges_learned_from_texts.main.body.getD i (.Pass ⟨0, 0, 0, 0⟩)
abbrev sDeck : Stmt := top 19
abbrev sDraw : Stmt := top 20
abbrev sPick : Stmt := top 21
/-! ### the deck, a dict: what holds of it between draws -/
theorem same_new {H : Hp} {p : Addr} (h : H p = none) (o : HO) : Same H (upd H p o) := fun b u q => by rw [upd_ne (ne_of_none q h)]; exact q
abbrev kI : Key := Sum.inr "cells"
abbrev kT : Key := Sum.inr "mixed"
abbrev kD : Key := Sum.inr "draws"
theorem kIT : ¬ kI = kT := by decide
theorem kID : ¬ kI = kD := by decide
theorem kTI : ¬ kT = kI := by decide
theorem kTD : ¬ kT = kD := by decide
theorem kDI : ¬ kD = kI := by decide
theorem kDT : ¬ kD = kT := by decide
abbrev deckL (g : Addr) (m n : Int) : List (Key × V) := [(kI, .ref g), (kT, .int m), (kD, .int n)]
theorem deck_items {g : Addr} {m n : Int} : valV (deckL g m n) kI = some (.ref g) := valV_pos (p := (kI, V.ref g)) rfl
theorem deck_total {g : Addr} {m n : Int} : valV (deckL g m n) kT = some (.int m) := (valV_neg (p := (kI, V.ref g)) kIT).trans (valV_pos (p := (kT, V.int m)) rfl)
theorem deck_draws {g : Addr} {m n : Int} : valV (deckL g m n) kD = some (.int n) := ((valV_neg (p := (kI, V.ref g)) kID).trans (valV_neg (p := (kT, V.int m)) kTD)).trans (valV_pos (p := (kD, V.int n)) rfl)
theorem get_items {H : Hp} {d g : Addr} {m n : Int} (e : H d = some (.dK (deckL g m n))) : DGet H d (.str "cells") (some (.ref g)) := by
  have z := DGet.k (k := kI) e
  rw [deck_items] at z
  exact z
theorem get_total {H : Hp} {d g : Addr} {m n : Int} (e : H d = some (.dK (deckL g m n))) : DGet H d (.str "mixed") (some (.int m)) := by
  have z := DGet.k (k := kT) e
  rw [deck_total] at z
  exact z
theorem get_draws {H : Hp} {d g : Addr} {m n : Int} (e : H d = some (.dK (deckL g m n))) : DGet H d (.str "draws") (some (.int n)) := by
  have z := DGet.k (k := kD) e
  rw [deck_draws] at z
  exact z
theorem deck_put {g : Addr} {m n j : Int} : putK (deckL g m n) kD (.int j) = deckL g m j := by
  have a : ((deckL g m n).any fun kv => decide (kv.1 = kD)) = true := by rw [valV_any, deck_draws]; rfl
  unfold putK
  rw [if_pos a]
  show [(if kI = kD then (kI, V.int j) else (kI, V.ref g)), (if kT = kD then (kT, V.int j) else (kT, V.int m)), (if kD = kD then (kD, V.int j) else (kD, V.int n))] = _
  rw [if_neg kID, if_neg kTD, if_pos rfl]
theorem deck_merge {g : Addr} {m n : Int} : mergeK [] (deckL g m n) = deckL g m n := by
  show putK (putK (putK [] kI (.ref g)) kT (.int m)) kD (.int n) = _
  rw [putK_new (kvs := []) (.ref g) valV_nil]
  rw [putK_new (kvs := [] ++ [(kI, V.ref g)]) (.int m) (valV_neg (p := (kI, V.ref g)) kIT)]
  rw [putK_new (kvs := [] ++ [(kI, V.ref g)] ++ [(kT, V.int m)]) (.int n) ((valV_neg (p := (kI, V.ref g)) kID).trans (valV_neg (p := (kT, V.int m)) kTD))]
  rfl
/-- a deck at d, its items at g, at most c draws so far -/
def DeckAt (c : Nat) (H : Hp) (d g : Addr) : Prop := ∃ (ns : List Int) (m n : Int), H d = some (.dK (deckL g m n)) ∧ H g = some (.lst (ns.map V.int)) ∧ ns.length ≤ 63 ∧ d ≠ g ∧ 0 ≤ n ∧ n ≤ c
/-- all that was tracked stands, but for d and g -/
def Keeps (d g : Addr) (H H' : Hp) : Prop := ∀ b o, b ≠ d → b ≠ g → H b = some o → H' b = some o
theorem Keeps.refl (d g : Addr) (H : Hp) : Keeps d g H H := fun _ _ _ _ h => h
theorem Keeps.trans {d g : Addr} {H H1 H2 : Hp} (a : Keeps d g H H1) (b : Keeps d g H1 H2) : Keeps d g H H2 := fun c o n1 n2 h => b c o n1 n2 (a c o n1 n2 h)
theorem Keeps.of {d g : Addr} {H H' : Hp} (s : Same H H') : Keeps d g H H' := fun b o _ _ h => s b o h
theorem Keeps.upd_d {d g : Addr} {H H' : Hp} (k : Keeps d g H H') (o : HO) : Keeps d g H (upd H' d o) := fun b u n1 n2 h => by rw [upd_ne n1]; exact k b u n1 n2 h
theorem Keeps.upd_g {d g : Addr} {H H' : Hp} (k : Keeps d g H H') (o : HO) : Keeps d g H (upd H' g o) := fun b u n1 n2 h => by rw [upd_ne n2]; exact k b u n1 n2 h
theorem DeckAt.same {c : Nat} {H H' : Hp} {d g : Addr} (h : DeckAt c H d g) (s : Same H H') : DeckAt c H' d g := by
  obtain ⟨ns, m, n, h1, h2, h3⟩ := h
  exact ⟨ns, m, n, s _ _ h1, s _ _ h2, h3⟩
theorem DeckAt.le {c c' : Nat} {H : Hp} {d g : Addr} (h : DeckAt c H d g) (e : c ≤ c') : DeckAt c' H d g := by
  obtain ⟨ns, m, n, h1, h2, h3, h4, h5, h6⟩ := h
  exact ⟨ns, m, n, h1, h2, h3, h4, h5, by omega⟩
theorem DeckAt.other {c : Nat} {H : Hp} {d g p : Addr} (h : DeckAt c H d g) (n1 : p ≠ d) (n2 : p ≠ g) (o : HO) : DeckAt c (upd H p o) d g := by
  obtain ⟨ns, m, n, h1, h2, h3⟩ := h
  exact ⟨ns, m, n, by rw [upd_ne n1.symm]; exact h1, by rw [upd_ne n2.symm]; exact h2, h3⟩
theorem DeckAt.dn {c : Nat} {H : Hp} {d g p : Addr} (h : DeckAt c H d g) (hp : H p = none) : p ≠ d ∧ p ≠ g := by
  obtain ⟨ns, m, n, h1, h2, _⟩ := h
  exact ⟨(ne_of_none h1 hp).symm, (ne_of_none h2 hp).symm⟩
theorem Keeps.free {d g t : Addr} {H H' : Hp} (k : Keeps d g H H') (n1 : t ≠ d) (n2 : t ≠ g) (e : H' t = none) : H t = none := by
  cases z : H t with
  | none => rfl
  | some u =>
    have y := k t u n1 n2 z
    rw [e] at y
    exact nomatch y
theorem Keeps.seq {K : PySem.W.Frag} {d g a : Addr} {H H' : Hp} {xs : List V} (k : Keeps d g H H') (n1 : a ≠ d) (n2 : a ≠ g) (h : SqL K H a xs) : SqL K H' a xs := by
  rcases h with (h | ⟨o, h⟩) | h
  · exact .inl (.inl (k _ _ n1 n2 h))
  · exact .inl (.inr ⟨o, k _ _ n1 n2 h⟩)
  · exact .inr h
/-- so many draws and no more -/
def most : Nat := 1000000000000
/-! ### promises -/
def spDeck (K : PySem.W.Frag) : Sp := fun vs H Q _ => ∃ (a : Addr) (ns : List Int), vs = [.ref a] ∧ SqL K H a (ns.map V.int) ∧ ns.length ≤ 63 ∧
  ∀ (d g : Addr) (H' : Hp), Same H H' → H d = none → H g = none → DeckAt 0 H' d g → Q (.ref d) H'
def spDraw : Sp := fun vs H Q _ => ∃ (d g : Addr) (b : Int) (c : Nat), vs = [.ref d, .int b] ∧ 0 < b ∧ b < 1073741824 ∧ DeckAt c H d g ∧ c < most ∧
  ∀ (r : Int) (H' : Hp), 0 ≤ r → r < b → DeckAt (c + 1) H' d g → Keeps d g H H' → Q (.int r) H'
def spPick (K : PySem.W.Frag) : Sp := fun vs H Q _ => ∃ (d g p : Addr) (xs : List V) (c : Nat), vs = [.ref d, .ref p] ∧ (SqL K H p xs) ∧ p ≠ d ∧ p ≠ g ∧ xs ≠ [] ∧ xs.length < 1000000 ∧ DeckAt c H d g ∧ c < most ∧
  ∀ (x : V) (H' : Hp), x ∈ xs → DeckAt (c + 1) H' d g → Keeps d g H H' → Q x H'
def spPickS : Sp := fun vs H Q _ => ∃ (d g : Addr) (z : Str) (c : Nat), vs = [.ref d, .str z] ∧ 0 < z.length ∧ z.length < 1000000 ∧ DeckAt c H d g ∧ c < most ∧
  ∀ (x : Nat) (H' : Hp), x ∈ z.cps.toList → DeckAt (c + 1) H' d g → Keeps d g H H' → Q (.str ⟨#[x]⟩) H'
/-- what the top leaves of the names that these defs use -/
structure TxtD (mg : Str → Option Value) (fW : Addr) : Prop where
  list : mg "list" = none
  int : mg "int" = none
  len : mg "len" = none
  draw : mg "_law_draw" = some (.ref fW)
section
variable {P : Program} {w : World} {K : PySem.W.Frag} {mg : Str → Option Value} {base : Heap}
theorem scDeck : FnScope ["_law_script", "_law_cells", "_law_mixed", "_law_cell"] ["_law_script"] (defScope sDeck) := ⟨rfl, rfl, rfl, by decide +kernel, rfl, by decide +kernel, by decide +kernel⟩
theorem int_at {ns : List Int} {i : Nat} {y : V} (h : (ns.map V.int)[i]? = some y) : ∃ z : Int, ns[i]? = some z ∧ y = .int z := by
  rw [List.getElem?_map] at h
  cases e : ns[i]? with
  | none => rw [e] at h; cases h
  | some z => rw [e] at h; exact ⟨z, rfl, (Option.some.inj h).symm⟩
theorem cut63 {xs : List V} (h : xs.length ≤ 63) : cutV xs none (some 63) = xs := by
  unfold cutV
  have e1 : HT.sIx xs.length 0 none = 0 := rfl
  have e2 : HT.sIx xs.length xs.length (some 63) = min 63 xs.length := HT.sIx_nat _ _ 63
  rw [e1, e2, List.drop_zero]
  exact List.take_of_length_le (by omega)
theorem ok_deck {f : Addr} {fd : FuncData} {fW : Addr} (F : Fun K "_law_deck" "_law_deck" sDeck f fd) (T : TxtD mg fW) : FnOk P w K mg base CX0 1 f fd ["_law_script"] (spDeck K) := by
  refine F.ok scDeck (fun vs H Q E h => ?_) (fun cdv A outer s H vs Q E hr h => ?_)
  · obtain ⟨a, ns, rfl, _⟩ := h
    rfl
  obtain ⟨a, ns, rfl, hS, h63, k⟩ := h
  refine ⟨_, pss_cons (ps_par (i := 1) (j := 2) rfl scDeck.nd rfl rfl (by decide) rfl rfl (pa_cons (pe_callTy call_list_of (by rfl) T.list (by decide +kernel) (pa_cons (pe_slice sl_list (pv 0) po_none (po_some pe_int)) pa_nil)) (pa_cons pe_int pa_nil)) (by rfl))
    (pss_cons (ps_for PassesOwn.never rfl (pi_list (pv 1)) (pg_name (i := 3) scDeck.nd rfl (Or.inl rfl))
      (pss_one (ps_set (i := 2) scDeck.nd rfl (Or.inl rfl) (pe_op op_mod (pe_callTy call_int1 (by rfl) T.int (by decide +kernel) (pa_cons (pe_op op_add (pe_op op_add (pe_op op_mul (pv 2) pe_int) (pe_op op_mod (pe_callTy call_int1 (by rfl) T.int (by decide +kernel) (pa_cons (pv 3) pa_nil)) pe_int)) pe_int) pa_nil)) pe_int))))
    (pss_one (ps_ret (pe_disp (pps_cons pe_str (pe_revL (pv 1)) (pps_cons pe_str (pv 2) (pps_cons pe_str pe_int pps_nil))) (by rfl) (by rfl) (fun z => by cases z) (by decide))))), ?_⟩
  have hlm : (ns.map V.int).length = ns.length := List.length_map _
  refine ⟨_, rfl, _, rfl, a, _, rfl, hS, fun p hp => ?_⟩
  rw [cut63 (by rw [hlm]; exact h63)]
  refine ⟨p, _, rfl, .inl (SqL.of upd_same), fun l hl => ?_⟩
  refine ⟨_, _, rfl, ?_⟩
  have s1 : Same H (upd (upd H p (.lst (ns.map V.int))) l (.lst (ns.map V.int))) := (same_new hp _).trans (same_new hl _)
  have hl0 : H l = none := (same_new hp _).free hl
  refine ⟨_, rfl, l, rfl, ⟨_, SqL.of upd_same⟩, for_list (K := K) (a := l) (xs := ns.map V.int) (fun i σ H' => ∃ (m : Int) (v : Option V), σ = [some (.ref a), some (.ref l), some (.int m), v] ∧ -4294967296 < m ∧ m < 4294967296 ∧ H' = upd (upd H p (.lst (ns.map V.int))) l (.lst (ns.map V.int)))
    ⟨_, none, rfl, by decide, by decide, rfl⟩ (fun i σ H' _ ⟨_, _, _, _, _, e⟩ => e ▸ SqL.of upd_same) ?_ ?_⟩
  · rintro i y σ H' hi ⟨m, v, rfl, hm0, hm1, rfl⟩
    obtain ⟨z, _, rfl⟩ := int_at hi
    refine ⟨_, rfl, _, _, rfl, rfl, .inr ⟨by decide, by decide⟩, _, rfl, .inl ⟨_, rfl, _, _, rfl, rfl, (by show (0 : Int) < _; decide), _, _, rfl, rfl, _, _, rfl, rfl, .inl ⟨_, rfl, _, _, rfl, rfl, (by show (0 : Int) < _; decide), ?_⟩⟩⟩
    refine ⟨_, some (.int z), rfl, ?_, ?_, rfl⟩
    · exact Int.lt_of_lt_of_le (by decide) (Int.emod_nonneg _ (by decide))
    · exact Int.lt_trans (Int.emod_lt_of_pos _ (by decide)) (by decide)
  · rintro σ H' ⟨m, v, rfl, hm0, hm1, rfl⟩
    intro d hd
    have s2 := s1.trans (same_new hd (.dK []))
    have e1 := same_new hd (.dK []) _ _ (upd_same (H := upd H p (.lst (ns.map V.int))) (a := l) (o := .lst (ns.map V.int)))
    refine ⟨_, rfl, l, _, rfl, SqL.of e1, fun g hg => ?_⟩
    have gd : g ≠ d := (ne_of_none upd_same hg).symm
    refine ⟨_, rfl, ?_⟩
    refine ⟨by rw [upd_ne gd.symm]; exact upd_same, deckL g m 0, rfl, (by show 3 ≤ 15; decide), ?_⟩
    rw [deck_merge]
    refine k d g _ (fun b o e => ?_) (s1.free hd) (s2.free hg) ⟨ns.reverse, m, 0, upd_same, ?_, by rw [List.length_reverse]; exact h63, gd.symm, Int.le_refl _, Int.le_refl _⟩
    · rw [upd_ne (ne_of_none e (s1.free hd))]
      exact (same_new hg _) _ _ (s2 _ _ e)
    · rw [upd_ne gd, upd_same, List.map_reverse]
/-! ### a draw -/
theorem scDraw : FnScope ["_law_deck_here", "_law_many", "_law_turn", "_law_cell", "_law_found"] ["_law_deck_here", "_law_many"] (defScope sDraw) := ⟨rfl, rfl, rfl, by decide +kernel, rfl, by decide +kernel, by decide +kernel⟩
theorem canLay_ints : ∀ ns : List Int, PyData.canLayAll0 (ns.map .int) = true
  | [] => rfl
  | n :: r => by simp only [List.map, PyData.canLayAll0, PyData.canLay0, canLay_ints r, Bool.and_self]
theorem depth_ints : ∀ ns : List Int, PyData.depthAll (ns.map .int) = 0
  | [] => rfl
  | n :: r => by simp only [List.map, PyData.depthAll, PyData.depth, depth_ints r, Nat.max_self]
theorem shaped_ints (ns : List Int) : SeqAt.shaped (.list (ns.map .int)) = true := by
  simp [SeqAt.shaped, PyData.canLay0, canLay_ints, PyData.depth, depth_ints]
theorem eqv_nil (ns : List Int) : PyData.eqv (.list (ns.map .int)) (.list []) = ns.isEmpty := by
  cases ns <;> simp [PyData.eqv, PyData.eqvAll]
theorem dpAll_ints {H : Hp} : ∀ ns : List Int, DpAll K H (ns.map V.int) (ns.map .int)
  | [] => .nil
  | n :: r => .cons (.int n) (dpAll_ints r)
theorem dp_ints {H : Hp} {a : Addr} {ns : List Int} (h : SqL K H a (ns.map V.int)) : Dp K H (.ref a) (.list (ns.map .int)) := .lst h (dpAll_ints ns)
theorem ok_draw {f : Addr} {fd : FuncData} {fW : Addr} (F : Fun K "_law_draw" "_law_draw" sDraw f fd) (T : TxtD mg fW) : FnOk P w K mg base CX0 1 f fd ["_law_deck_here", "_law_many"] spDraw := by
  refine F.ok scDraw (fun vs H Q E h => ?_) (fun cdv A outer s H vs Q E hr h => ?_)
  · obtain ⟨d, g, b, c, rfl, _⟩ := h
    rfl
  obtain ⟨d, g, b, c, rfl, hb0, hb1, ⟨ns, m, n, h1, h2, h63, hdg, hn0, hn1⟩, hc, k⟩ := h
  unfold most at hc
  refine ⟨_, pss_cons (ps_dput (hu_of hr) (pv 0) pe_str (pe_op op_add (pe_dget (hu_of hr) (pv 0) pe_str (fun _ _ => rfl)) pe_int) rfl)
    (pss_cons (ps_par (i := 2) (j := 3) rfl scDraw.nd rfl rfl (by decide) rfl rfl (pa_cons (pe_dget (hu_of hr) (pv 0) pe_str (fun _ _ => rfl)) (pa_cons (pe_dget (hu_of hr) (pv 0) pe_str (fun _ _ => rfl)) pa_nil)) (by rfl))
    (C8.pss_cut (ps_if (pt_cmpR (op_neD hr.units) (pe_dget (hu_of hr) (pv 0) pe_str (fun _ _ => rfl)) (pe_lst pa_nil) (nomark _))
        (pss_cons (ps_set (i := 3) scDraw.nd rfl (Or.inl rfl) (pe_bm0 PySem.F.plainAttrs_list PySem.F.slot_list_pop PySem.F.type_list_pop mt_pop (pe_dget (hu_of hr) (pv 0) pe_str (fun _ _ => rfl))))
        (pss_cons (ps_if (pt_cmpR op_ge (pv 3) (pe_op op_pow pe_int pe_int) (nomark _))
            (pss_cons (ps_expr (pe_bm PySem.F.plainAttrs_list PySem.F.slot_list_append PySem.F.type_list_append mt_append (pe_dget (hu_of hr) (pv 0) pe_str (fun _ _ => rfl)) (pa_cons (pe_op op_fdivN (pv 3) (pv 1)) pa_nil)))
            (pss_one (ps_ret (pe_op op_modN (pe_callTy call_int1 (by rfl) T.int (by decide +kernel) (pa_cons (pv 3) pa_nil)) (pv 1))))) pss_nil)
        (pss_one (ps_set (i := 3) scDraw.nd rfl (Or.inl rfl) (pe_op op_add (pv 3) (pe_dget (hu_of hr) (pv 0) pe_str (fun _ _ => rfl))))))) pss_nil)
    (pss_cons (ps_set (i := 4) scDraw.nd rfl (Or.inl rfl) (pe_op op_mod (pe_op op_mul (pe_callTy call_int1 (by rfl) T.int (by decide +kernel) (pa_cons (pe_op op_add (pe_op op_add (pe_op op_mod (pe_callTy call_int1 (by rfl) T.int (by decide +kernel) (pa_cons (pv 3) pa_nil)) pe_int) (pe_op op_mul (pe_op op_mul pe_int (pv 2)) (pv 2))) pe_int) pa_nil)) pe_int) pe_int))
    (pss_cons (ps_set (i := 4) scDraw.nd rfl (Or.inl rfl) (pe_op op_mod (pe_callTy call_int1 (by rfl) T.int (by decide +kernel) (pa_cons (pe_op op_add (pe_op op_add (pe_op op_mul (pv 4) (pv 4)) (pe_op op_mul pe_int (pv 2))) pe_int) pa_nil)) pe_int))
    (pss_one (ps_ret (pe_op op_modN (pe_op op_fdiv (pe_op op_mod (pe_callTy call_int1 (by rfl) T.int (by decide +kernel) (pa_cons (pe_op op_mul (pv 4) pe_int) pa_nil)) pe_int) pe_int) (pv 1)))))))), ?_⟩
  -- one draw more
  refine ⟨_, rfl, d, _, rfl, get_draws h1, _, _, rfl, rfl, _, rfl, d, _, rfl, DPut.k (k := kD) h1 (by show 3 < sizeLine; decide), ?_⟩
  rw [deck_put]
  have hgd : g ≠ d := hdg.symm
  have e1 : upd H d (.dK (deckL g m (n + 1))) d = some (.dK (deckL g m (n + 1))) := upd_same
  have e2 : upd H d (.dK (deckL g m (n + 1))) g = some (.lst (ns.map V.int)) := by rw [upd_ne hgd]; exact h2
  have kp : Keeps d g H (upd H d (.dK (deckL g m (n + 1)))) := (Keeps.refl d g H).upd_d _
  generalize upd H d (.dK (deckL g m (n + 1))) = H1 at e1 e2 kp ⊢
  refine ⟨_, rfl, d, _, rfl, get_draws e1, _, rfl, d, .int m, rfl, get_total e1, _, _, rfl, ?_⟩
  -- what stands behind the if
  refine ⟨fun σ H' => ∃ (x : Int) (v : Option V), σ = [some (.ref d), some (.int b), some (.int (n + 1)), some (.int x), v] ∧ DeckAt (c + 1) H' d g ∧ Keeps d g H H', ?_, ?_⟩
  · refine ⟨_, rfl, d, .ref g, rfl, get_items e1, Nat.zero_le _, fun p hp => ?_⟩
    have hpd : p ≠ d := (ne_of_none e1 hp).symm
    have hpg : p ≠ g := (ne_of_none e2 hp).symm
    have e3 : upd H1 p (.lst []) d = some (.dK (deckL g m (n + 1))) := by rw [upd_ne hpd.symm]; exact e1
    have e4 : upd H1 p (.lst []) g = some (.lst (ns.map V.int)) := by rw [upd_ne hpg.symm]; exact e2
    have kp1 : Keeps d g H (upd H1 p (.lst [])) := kp.trans (.of (same_new hp _))
    refine ⟨_, _, dp_ints (SqL.of e4), .lst (SqL.of upd_same) .nil, shaped_ints ns, rfl, _, rfl, ?_⟩
    rw [eqv_nil]
    generalize upd H1 p (.lst []) = H2 at e3 e4 kp1
    rcases List.eq_nil_or_concat ns with rfl | ⟨ms, z, rfl⟩
    · rw [if_neg (by simp)]
      exact ⟨_, none, rfl, ⟨[], m, n + 1, e3, e4, Nat.zero_le _, hdg, by omega, by omega⟩, kp1⟩
    · rw [if_pos (by simp)]
      rw [List.concat_eq_append, List.map_append] at e4
      rw [List.concat_eq_append] at h63
      have e4' : H2 g = some (.lst (ms.map V.int ++ [V.int z])) := e4
      have hlast : (ms.map V.int ++ [V.int z])[(ms.map V.int ++ [V.int z]).length - 1]? = some (V.int z) := by simp
      have hms : ms.length + 1 ≤ 63 := by rw [List.length_append, List.length_singleton] at h63; exact h63
      refine ⟨_, rfl, d, .ref g, rfl, get_items e3, .inl ⟨rfl, _, SqL.of e4'⟩, g, _, _, rfl, rfl, e4', hlast, ?_⟩
      have e5 : upd H2 g (.lst (ms.map V.int ++ [V.int z]).dropLast) d = some (.dK (deckL g m (n + 1))) := by rw [upd_ne hdg]; exact e3
      have e6 : upd H2 g (.lst (ms.map V.int ++ [V.int z]).dropLast) g = some (.lst (ms.map V.int)) := by rw [upd_same, List.dropLast_concat]
      have kp3 : Keeps d g H (upd H2 g (.lst (ms.map V.int ++ [V.int z]).dropLast)) := kp1.upd_g _
      generalize upd H2 g (.lst (ms.map V.int ++ [V.int z]).dropLast) = H3 at e5 e6 kp3
      refine ⟨_, rfl, _, _, rfl, rfl, ⟨by decide, by decide, by decide⟩, _, _, rfl, rfl, _, rfl, ?_⟩
      refine ite2 (fun _ => ?_) (fun _ => ?_)
      · refine ⟨_, rfl, d, .ref g, rfl, get_items e5, .inl ⟨rfl, _, SqL.of e6⟩, _, rfl, _, rfl, _, _, rfl, rfl, ⟨by omega, by omega⟩, g, _, _, rfl, rfl, e6, ?_, ?_⟩
        · rw [List.length_map]
          exact small1000 (by omega)
        · refine ⟨_, rfl, .inl ⟨_, rfl, _, rfl, _, _, rfl, rfl, (by show b ≠ 0; omega), ?_⟩⟩
          refine k _ _ (Int.fmod_nonneg_of_pos _ hb0) (Int.fmod_lt_of_pos _ hb0) ⟨ms ++ [z.fdiv b], m, n + 1, ?_, ?_, ?_, hdg, by omega, by omega⟩ (kp3.upd_g _)
          · rw [upd_ne hdg]; exact e5
          · rw [upd_same, List.map_append]; rfl
          · rw [List.length_append, List.length_singleton]; exact hms
      · refine ⟨_, rfl, _, rfl, d, .int m, rfl, get_total e5, _, _, rfl, rfl, ?_⟩
        exact ⟨_, _, rfl, ⟨ms, m, n + 1, e5, e6, by omega, hdg, by omega, by omega⟩, kp3⟩
  · rintro σ H2 ⟨x, v, rfl, hD2, kp2⟩
    have hm0 : -18446744073709551616 < n + 1 := by omega
    have hm1 : n + 1 < 18446744073709551616 := by omega
    refine ⟨_, rfl, .inl ⟨_, rfl, _, _, rfl, rfl, (by show (0 : Int) < _; decide), _, rfl, _, _, rfl, rfl, .inl ⟨by decide, by decide⟩, _, rfl, _, _, rfl, rfl, .inr ⟨hm0, hm1⟩, _, _, rfl, rfl, _, _, rfl, rfl, .inl ⟨_, rfl, _, _, rfl, rfl, .inr ⟨by decide, by decide⟩, _, _, rfl, rfl, (by show (0 : Int) < _; decide), ?_⟩⟩⟩
    refine ⟨_, rfl, _, rfl, _, _, rfl, rfl, .inl ⟨?b1, ?b2⟩, ?_⟩
    case b1 => exact Int.lt_of_lt_of_le (by decide) (Int.emod_nonneg _ (by decide))
    case b2 => exact Int.lt_trans (Int.emod_lt_of_pos _ (by decide)) (by decide)
    refine ⟨_, rfl, _, _, rfl, rfl, .inl ⟨by decide, by decide⟩, _, _, rfl, rfl, _, _, rfl, rfl, .inl ⟨_, rfl, _, _, rfl, rfl, (by show (0 : Int) < _; decide), ?_⟩⟩
    refine ⟨_, rfl, _, _, rfl, rfl, .inr ⟨by decide, by decide⟩, .inl ⟨_, rfl, _, _, rfl, rfl, (by show (0 : Int) < _; decide), _, _, rfl, rfl, ⟨by decide, by decide⟩, _, rfl, _, _, rfl, rfl, (by show b ≠ 0; omega), ?_⟩⟩
    exact k _ H2 (Int.fmod_nonneg_of_pos _ hb0) (Int.fmod_lt_of_pos _ hb0) hD2 kp2
/-! ### a pick -/
theorem scPick : FnScope ["_law_deck_here", "_law_some"] ["_law_deck_here", "_law_some"] (defScope sPick) := ⟨rfl, rfl, rfl, by decide +kernel, rfl, by decide +kernel, by decide +kernel⟩
theorem ok_pick {f : Addr} {fd : FuncData} {fW : Addr} {fdW : FuncData} (F : Fun K "_law_pick" "_law_pick" sPick f fd) (FW : Fun K "_law_draw" "_law_draw" sDraw fW fdW) (bW : Binds K fdW ["_law_deck_here", "_law_many"] []) (T : TxtD mg fW) : FnOk P w K mg base CX0 2 f fd ["_law_deck_here", "_law_some"] (spPick K) := by
  have GW : FnOk P w K mg base CX0 1 fW fdW ["_law_deck_here", "_law_many"] spDraw := ok_draw FW T
  refine F.ok scPick (fun vs H Q E h => ?_) (fun cdv A outer s H vs Q E hr h => ?_)
  · obtain ⟨d, g, p, xs, c, rfl, _⟩ := h
    rfl
  obtain ⟨d, g, p, xs, c, rfl, hS, n1, n2, hne, hlen, hD, hc, k⟩ := h
  refine ⟨_, pss_one (ps_ret (pe_ix ix_list (pv 1) (pe_call GW hr rfl T.draw FW.kp bW .nil pass0 (pa_cons (pv 0) (pa_cons (pe_callB call_len_seq (by rfl) T.len PySem.boot_len (pa_cons (pv 1) pa_nil)) pa_nil))) (fun _ _ => rfl))), ?_⟩
  have hpos : 0 < xs.length := List.length_pos_iff.mpr hne
  refine ⟨_, rfl, _, rfl, _, rfl, p, _, rfl, .inl hS, d, g, _, c, rfl, by omega, by omega, hD, hc, fun r H' h0 h1 hD' kp => ?_⟩
  have hr : r.toNat < xs.length := by omega
  have er : r = ((r.toNat : Nat) : Int) := by omega
  have hx : atI xs r = some xs[r.toNat] := at_of er (List.getElem?_eq_getElem hr)
  exact ⟨p, _, r, _, rfl, rfl, kp.seq n1 n2 hS, hx, k _ H' (List.getElem_mem hr) hD' kp⟩
theorem ok_pickS {f : Addr} {fd : FuncData} {fW : Addr} {fdW : FuncData} (F : Fun K "_law_pick" "_law_pick" sPick f fd) (FW : Fun K "_law_draw" "_law_draw" sDraw fW fdW) (bW : Binds K fdW ["_law_deck_here", "_law_many"] []) (T : TxtD mg fW) : FnOk P w K mg base CX0 2 f fd ["_law_deck_here", "_law_some"] spPickS := by
  have GW : FnOk P w K mg base CX0 1 fW fdW ["_law_deck_here", "_law_many"] spDraw := ok_draw FW T
  refine F.ok scPick (fun vs H Q E h => ?_) (fun cdv A outer s H vs Q E hr h => ?_)
  · obtain ⟨d, g, z, c, rfl, _⟩ := h
    rfl
  obtain ⟨d, g, z, c, rfl, hpos, hlen, hD, hc, k⟩ := h
  refine ⟨_, pss_one (ps_ret (pe_ix ix_str (pv 1) (pe_call GW hr rfl T.draw FW.kp bW .nil pass0 (pa_cons (pv 0) (pa_cons (pe_callB call_len_str (by rfl) T.len PySem.boot_len (pa_cons (pv 1) pa_nil)) pa_nil))) (fun _ _ => rfl))), ?_⟩
  have hz : z.length ≤ sizeLine := Nat.le_trans (Nat.le_of_lt hlen) (by decide)
  refine ⟨_, rfl, _, rfl, _, rfl, _, rfl, hz, d, g, _, c, rfl, by omega, by omega, hD, hc, fun r H' h0 h1 hD' kp => ?_⟩
  have hl : z.cps.toList.length = z.length := by rw [Array.length_toList]; rfl
  have hr : r.toNat < z.cps.toList.length := by omega
  have er : r = ((r.toNat : Nat) : Int) := by omega
  have hx : atI z.cps.toList r = some z.cps.toList[r.toNat] := by
    rw [show atI z.cps.toList r = atI z.cps.toList ((r.toNat : Nat) : Int) from congrArg _ er]
    exact atI_nat (List.getElem?_eq_getElem hr)
  exact ⟨z, r, _, rfl, rfl, hz, hx, k _ H' (List.getElem_mem hr) hD' kp⟩
end
end Vf

set_option linter.all false
namespace Vm
/-! ### words as lists of codes; the pieces of a word -/
abbrev Wd := List Nat
theorem lt_irr (x : Wd) : ¬ x < x := List.lt_irrefl x
theorem lt_tr {x y z : Wd} (a : x < y) (b : y < z) : x < z := List.lt_trans a b
theorem lt_as {x y : Wd} (a : x < y) : ¬ y < x := fun b => lt_irr x (lt_tr a b)
theorem lt_tri {x y : Wd} (a : ¬ x < y) (b : ¬ y < x) : x = y := List.le_antisymm (List.not_lt.mp b) (List.not_lt.mp a)
theorem le_tr {x y z : Wd} (a : ¬ y < x) (b : ¬ z < y) : ¬ z < x := List.not_lt.mpr (List.le_trans (List.not_lt.mp a) (List.not_lt.mp b))
/-- p into an ascending list -/
def ins (p : Wd) : List Wd → List Wd
  | [] => [p]
  | q :: r => if p < q then p :: q :: r else if q < p then q :: ins p r else q :: r
def asc : List Wd → List Wd
  | [] => []
  | p :: r => ins p (asc r)
abbrev Up (l : List Wd) : Prop := l.Pairwise (· < ·)
theorem mem_ins {p x : Wd} : ∀ {l : List Wd}, x ∈ ins p l ↔ x = p ∨ x ∈ l
  | [] => by simp [ins]
  | q :: r => by
    unfold ins
    by_cases h1 : p < q
    · simp [h1]
    · by_cases h2 : q < p
      · simp only [h1, h2, if_false, if_true, List.mem_cons, mem_ins (l := r)]
        constructor
        · rintro (a | a | a) <;> simp [a]
        · rintro (a | a | a) <;> simp [a]
      · have e := lt_tri h1 h2
        subst e
        simp [h1]
theorem up_ins {p : Wd} : ∀ {l : List Wd}, Up l → Up (ins p l)
  | [], _ => List.pairwise_singleton _ _
  | q :: r, h => by
    obtain ⟨a, b⟩ := List.pairwise_cons.mp h
    unfold ins
    by_cases h1 : p < q
    · rw [if_pos h1]
      exact List.pairwise_cons.mpr ⟨fun y hy => (List.mem_cons.mp hy).elim (fun e => e ▸ h1) fun hy => lt_tr h1 (a y hy), h⟩
    · rw [if_neg h1]
      by_cases h2 : q < p
      · rw [if_pos h2]
        exact List.pairwise_cons.mpr ⟨fun y hy => (mem_ins.mp hy).elim (fun e => e ▸ h2) fun hy => a y hy, up_ins b⟩
      · rw [if_neg h2]; exact h
theorem mem_asc {x : Wd} : ∀ {l : List Wd}, x ∈ asc l ↔ x ∈ l
  | [] => Iff.rfl
  | p :: r => by unfold asc; rw [mem_ins, mem_asc (l := r), List.mem_cons]
theorem up_asc : ∀ l : List Wd, Up (asc l)
  | [] => List.Pairwise.nil
  | p :: r => up_ins (up_asc r)
theorem up_uniq : ∀ {l m : List Wd}, Up l → Up m → (∀ x, x ∈ l ↔ x ∈ m) → l = m
  | [], [], _, _, _ => rfl
  | [], y :: m, _, _, h => absurd ((h y).mpr (List.mem_cons_self ..)) (by simp)
  | x :: l, [], _, _, h => absurd ((h x).mp (List.mem_cons_self ..)) (by simp)
  | x :: l, y :: m, hl, hm, h => by
    obtain ⟨a1, a2⟩ := List.pairwise_cons.mp hl
    obtain ⟨b1, b2⟩ := List.pairwise_cons.mp hm
    have e : x = y := by
      rcases List.mem_cons.mp ((h x).mp (List.mem_cons_self ..)) with e | hx
      · exact e
      · rcases List.mem_cons.mp ((h y).mpr (List.mem_cons_self ..)) with e | hy
        · exact e.symm
        · exact absurd (a1 y hy) (lt_as (b1 x hx))
    subst e
    refine congrArg (x :: ·) (up_uniq a2 b2 fun z => ?_)
    have hz := h z
    simp only [List.mem_cons] at hz
    constructor
    · intro q
      rcases hz.mp (.inr q) with e | w
      · exact absurd (a1 z q) (e ▸ lt_irr _)
      · exact w
    · intro q
      rcases hz.mpr (.inr q) with e | w
      · exact absurd (b1 z q) (e ▸ lt_irr _)
      · exact w
theorem up_nodup {l : List Wd} (h : Up l) : l.Nodup := List.Pairwise.imp (fun {a b} (q : a < b) (e : a = b) => lt_irr b (by rw [e] at q; exact q)) h
/-- a sorted list without doubles ascends -/
theorem up_of_le : ∀ {l : List Wd}, l.Pairwise (fun x y => ¬ y < x) → l.Nodup → Up l
  | [], _, _ => List.Pairwise.nil
  | x :: l, h, d => by
    obtain ⟨a1, a2⟩ := List.pairwise_cons.mp h
    obtain ⟨b1, b2⟩ := List.nodup_cons.mp d
    refine List.pairwise_cons.mpr ⟨fun y hy => ?_, up_of_le a2 b2⟩
    by_cases c : x < y
    · exact c
    · exact absurd (lt_tri c (a1 y hy) ▸ hy) b1
theorem asc_length_le : ∀ l : List Wd, (asc l).length ≤ l.length
  | [] => Nat.le_refl _
  | p :: r => by
    have h : ∀ m : List Wd, (ins p m).length ≤ m.length + 1 := by
      intro m
      induction m with
      | nil => exact Nat.le_refl _
      | cons q m ih =>
        unfold ins
        by_cases h1 : p < q
        · simp [h1]
        · by_cases h2 : q < p
          · simp [h1, h2]; exact ih
          · simp [h1, h2]
    exact Nat.le_trans (h _) (Nat.succ_le_succ (asc_length_le r))
theorem asc_congr {l m : List Wd} (h : ∀ x, x ∈ l ↔ x ∈ m) : asc l = asc m := up_uniq (up_asc _) (up_asc _) fun x => by rw [mem_asc, mem_asc, h x]
/-- the pieces of k signs, from the left -/
def win (k : Nat) (z : Wd) (i : Nat) : Wd := (z.drop i).take k
def wins (k : Nat) (z : Wd) : List Wd := (List.range (z.length + 1 - k)).map (win k z)
theorem wins_length (k : Nat) (z : Wd) : (wins k z).length = z.length + 1 - k := by simp [wins]
theorem wins_get {k : Nat} {z : Wd} {i : Nat} (h : i < z.length + 1 - k) : (wins k z)[i]? = some (win k z i) := by simp [wins, h]
theorem win_length {k : Nat} {z : Wd} {i : Nat} (h : i < z.length + 1 - k) : (win k z i).length = k := by
  simp [win]; omega
theorem wins_len {k : Nat} {z p : Wd} (h : p ∈ wins k z) : p.length = k := by
  obtain ⟨i, hi, rfl⟩ := List.mem_map.mp h
  exact win_length (List.mem_range.mp hi)
theorem wins_mem {k : Nat} {z p : Wd} (h : p ∈ wins k z) : ∀ c ∈ p, c ∈ z := by
  obtain ⟨i, hi, rfl⟩ := List.mem_map.mp h
  intro c hc
  exact List.mem_of_mem_drop (List.mem_of_mem_take hc)
/-- how often a piece stands in a word -/
def often (k : Nat) (z p : Wd) : Nat := (wins k z).count p
theorem often_pos {k : Nat} {z p : Wd} : 0 < often k z p ↔ p ∈ wins k z := List.count_pos_iff
theorem often_le (k : Nat) (z p : Wd) : often k z p ≤ z.length + 1 - k := by
  rw [← wins_length]; exact List.count_le_length
/-- the wins so far -/
theorem take_succ_wins {k : Nat} {z : Wd} {i : Nat} (h : i < z.length + 1 - k) : (wins k z).take (i + 1) = (wins k z).take i ++ [win k z i] := by
  rw [List.take_add_one, wins_get h]; rfl
/-! ### counting from place to place -/
def upto (k : Nat) (z p : Wd) (j : Nat) : Nat := ((wins k z).take j).count p
theorem upto_all {k : Nat} {z p : Wd} {j : Nat} (h : z.length + 1 - k ≤ j) : upto k z p j = often k z p := by
  unfold upto often
  rw [List.take_of_length_le (by rw [wins_length]; exact h)]
theorem upto_none {k : Nat} {z p : Wd} {a b : Nat} (h : a ≤ b) (hn : ∀ i, a ≤ i → i < b → i < z.length + 1 - k → win k z i ≠ p) : upto k z p b = upto k z p a := by
  induction b with
  | zero => cases Nat.le_zero.mp h; rfl
  | succ b ih =>
    by_cases e : a = b + 1
    · rw [e]
    · have r := ih (by omega) fun i h1 h2 h3 => hn i h1 (by omega) h3
      rw [← r]
      unfold upto
      by_cases hb : b < z.length + 1 - k
      · rw [take_succ_wins hb, List.count_append, List.count_singleton, if_neg]
        · rfl
        · simpa using hn b (by omega) (by omega) hb
      · rw [List.take_of_length_le (by rw [wins_length]; omega), List.take_of_length_le (by rw [wins_length]; omega)]
theorem upto_hit {k : Nat} {z p : Wd} {b : Nat} (hb : b < z.length + 1 - k) (h : win k z b = p) : upto k z p (b + 1) = upto k z p b + 1 := by
  unfold upto
  rw [take_succ_wins hb, List.count_append, List.count_singleton, if_pos (by simpa using h)]
theorem upto_zero {k : Nat} {z p : Wd} {i : Nat} (h : p ∉ (wins k z).take i) : upto k z p i = 0 := List.count_eq_zero.mpr h
theorem upto_miss {k : Nat} {z p : Wd} {b : Nat} (hb : b < z.length + 1 - k) (h : p ≠ win k z b) : upto k z p (b + 1) = upto k z p b := by
  unfold upto
  rw [take_succ_wins hb, List.count_append, List.count_singleton, if_neg (by simpa using fun e => h e.symm)]
  rfl
theorem mem_take_succ {k : Nat} {z p : Wd} {i : Nat} (hi : i < z.length + 1 - k) : p ∈ (wins k z).take (i + 1) ↔ p ∈ (wins k z).take i ∨ p = win k z i := by
  rw [take_succ_wins hi, List.mem_append, List.mem_singleton]
end Vm

set_option Elab.async false
set_option linter.all false
set_option maxRecDepth 100000
set_option maxHeartbeats 4000000
/-! ### texts, any number of them, sorted -/
namespace SrtO
open PySem PyProof.Rows Srt
section
variable {prog : Program} {w : World} {A : Around} {E : Value → Shared → Prop} {s : Shared}
def ltSv (v u : Value) : Bool := decide ((strOf v).cps.toList < (strOf u).cps.toList)
theorem swo_text : Swo ltSv := by
  refine ⟨fun x y h => ?_, fun x y z h1 h2 => ?_⟩
  · have a := of_decide_eq_true (p := (strOf x).cps.toList < (strOf y).cps.toList) h
    exact decide_eq_false (p := (strOf y).cps.toList < (strOf x).cps.toList) (Vm.lt_as a)
  · have a := of_decide_eq_false (p := (strOf y).cps.toList < (strOf x).cps.toList) h1
    have b := of_decide_eq_false (p := (strOf z).cps.toList < (strOf y).cps.toList) h2
    exact decide_eq_false (p := (strOf z).cps.toList < (strOf x).cps.toList) (Vm.le_tr a b)
theorem strs_mem : ∀ {vs : List Value} {ns : List PySem.Str}, StrsAre vs ns → ∀ v ∈ vs, ∃ i t, v = Value.str i t
  | _, _, .nil, v, h => absurd h (by simp)
  | _, _, .cons n t r, v, h => by
    rcases List.mem_cons.mp h with e | h
    · exact ⟨n, t, e⟩
    · exact strs_mem r v h
theorem strs_sv : ∀ {vs : List Value} {ns : List PySem.Str}, StrsAre vs ns → vs.map strOf = ns
  | _, _, .nil => rfl
  | _, _, .cons n t r => congrArg (n :: ·) (strs_sv r)
theorem text_cmp {vs : List Value} {ns : List PySem.Str} (hI : StrsAre vs ns) : Cmp prog w A s oneType' (fun p => p.1 ∈ vs) (lt2 ltSv) := by
  intro p q hm hm'
  obtain ⟨a, t, e⟩ := strs_mem hI _ hm
  obtain ⟨b, u, e'⟩ := strs_mem hI _ hm'
  show wpAny (model prog w) A (keyLt' oneType' p.1 q.1) (fun r s' => s' = s ∧ r = ltSv p.1 q.1) (fun _ _ => False) s
  rw [e, e', keyLt'_oneType]
  exact oneLt_str ⟨rfl, rfl⟩
theorem texts_sortable {a : Addr} {vs : List Value} {ns : List PySem.Str} (hI : StrsAre vs ns) (h2 : 2 ≤ vs.length) : SortableO prog w A s a vs ltSv := by
  intro h' _
  refine ⟨oneType', fun Q E hq => ?_, text_cmp hI⟩
  match vs, hI, h2 with
  | v1 :: v2 :: rest, hI, _ =>
    rw [keyKind_strs hI]
    exact wpAny_pure hq
  | [], _, h => exact absurd h (by decide)
  | [v], _, h => exact absurd h (by simp)
/-- a sorted list of texts -/
abbrev UpS (l : List PySem.Str) : Prop := l.Pairwise fun x y => ¬ y.cps.toList < x.cps.toList
theorem texts_out {vs out : List Value} {ns : List PySem.Str} (hI : StrsAre vs ns) (hs : Srtd ltSv out) (hb : Stb ltSv out vs) : StrsAre out (out.map strOf) ∧ (out.map strOf).Perm ns ∧ UpS (out.map strOf) := by
  refine ⟨Vs.strs_of out fun v hv => strs_mem hI v (hb.perm.mem_iff.mp hv), ?_, ?_⟩
  · have q := hb.perm.map strOf
    rw [strs_sv hI] at q
    exact q
  · exact List.pairwise_map.mpr (hs.imp fun {x y} h => of_decide_eq_false (p := (strOf y).cps.toList < (strOf x).cps.toList) h)
end
end SrtO
namespace Vs
open PySem PySem.Spec PyProof.Rows L2 SrtO
open PySem.Froz (SD sObj addTx tailTx sing TxOk)
section
variable {P : Program} {w : World} {A : Around} {E : Value → Shared → Prop} {s : Shared}
/-- the collected texts, as a new list that is sorted -/
theorem sort_collected {α : Type} {vs : List Value} {ks : List PySem.Str} {s1 : Shared} {t : Value → Sem α} {Q : α → Shared → Prop} (hS : StrsAre vs ks) (hz : vs.length ≤ sizeLine)
    (h : ∀ (h' : Heap) p (out : List Value) (c : Nat) (ys : List PySem.Str), (∀ b o, s1.heap.get? b = some o → h'.get? b = some o) → s1.heap.objs.size ≤ p →
      h'.get? p = some (seqObj "list" out.toArray c) → StrsAre out ys → ys.Perm ks → UpS ys → wpAny (model P w) A (t (.ref p)) Q E { s1 with heap := h' }) :
    wpAny (model P w) A (do
      let r ← newList vs
      let _ ← holding [r] (call (.builtin "list.sort") [r] [])
      t r) Q E s1 := by
  refine wpAny_bind (wpAny_newList ?_ hz)
  have hL : (s1.heap.push (seqObj "list" vs.toArray 0)).get? s1.heap.objs.size = some (seqObj "list" vs.toArray 0) := Heap.get?_push_size _ rfl
  refine wpAny_bind (wpAny_holding (wpAny_call_entry slot_list_sort ⟨_, hL, rfl⟩ entry_list_sort
    (list_sort_ord swo_text hL hz (fun h2 => texts_sortable hS h2) fun out h1 h2 => ⟨_, rfl, ?_⟩) (args_list_sort _)))
  obtain ⟨y1, y2, y3⟩ := texts_out hS h1 h2
  obtain ⟨c, hc⟩ := sortedHeap_at (vs := vs) (out := out.toArray) hL
  refine h _ s1.heap.objs.size out c _ (fun b u q => ?_) (Nat.le_refl _) hc y1 y2 y3
  have hb := Heap.lt_size q
  rw [sortedHeap_old (Nat.ne_of_lt hb) (by rw [size_push']; exact Nat.lt_succ_of_lt hb)]
  exact Heap.get?_push_of_some _ q
end
end Vs

set_option Elab.async false
set_option linter.all false
set_option maxRecDepth 100000
set_option maxHeartbeats 4000000
namespace Vs
open PySem PySem.Spec PyProof.Rows L2 SrtO
open PySem.Froz (SD sObj addTx tailTx sing TxOk)
/-! ### set(d), d a dict whose keys are texts -/
theorem above_go (n : Nat) (hn : n ≤ 8192) : ∀ fuel size, size ≤ 16384 → SetTable.sizeAbove.go n fuel size ≤ 16384
  | 0, size, h => by unfold SetTable.sizeAbove.go; exact h
  | fuel + 1, size, h => by
    unfold SetTable.sizeAbove.go
    split
    · exact above_go n hn fuel (size * 2) (by omega)
    · exact h
theorem above_le {n : Nat} (hn : n ≤ 8192) : SetTable.sizeAbove n ≤ 16384 := above_go n hn 64 8 (by decide)
theorem live_none (m : Nat) : (List.range (m + 1)).filterMap (fun j => ((Array.replicate (m + 1) (none : Option Nat)).getD j none).map (j, ·)) = [] := by
  refine List.filterMap_eq_nil_iff.mpr fun j _ => ?_
  have e : (Array.replicate (m + 1) (none : Option Nat)).getD j none = none := by
    rw [Array.getD_eq_getD_getElem?, Array.getElem?_replicate]
    split <;> rfl
  rw [e]
  rfl
theorem relaid_none (t : SetTable) (n : Nat) : ∃ t', t.relaid #[] n = some (t', #[]) ∧ t'.place = #[] ∧ t'.dummies = #[] ∧ t'.led = t.led := by
  refine ⟨{ mask := SetTable.sizeAbove n - 1, place := #[], dummies := #[], finger := t.finger, led := t.led, moves := t.movedTo (SetTable.sizeAbove n - 1), plain := t.plain }, ?_, rfl, rfl, rfl⟩
  have e : SetTable.layClean (SetTable.sizeAbove n - 1) #[] = some (Array.replicate (SetTable.sizeAbove n - 1 + 1) none) := rfl
  have l := live_none (SetTable.sizeAbove n - 1)
  unfold SetTable.relaid SetTable.laid
  rw [e]
  show some (({ mask := SetTable.sizeAbove n - 1, place := (((List.range (SetTable.sizeAbove n - 1 + 1)).filterMap (fun j => ((Array.replicate (SetTable.sizeAbove n - 1 + 1) (none : Option Nat)).getD j none).map (j, ·))).map Prod.fst).toArray, dummies := #[], finger := t.finger, led := t.led, moves := t.movedTo (SetTable.sizeAbove n - 1), plain := t.plain } : SetTable), (((List.range (SetTable.sizeAbove n - 1 + 1)).filterMap (fun j => ((Array.replicate (SetTable.sizeAbove n - 1 + 1) (none : Option Nat)).getD j none).map (j, ·))).map Prod.snd).toArray) = _
  rw [l]
  rfl
section
variable {P : Program} {w : World} {A : Around} {E : Value → Shared → Prop} {s : Shared}
theorem room_fresh {S : Addr} {n : Nat} {Q : Unit → Shared → Prop} (hS : s.heap.get? S = some (sObj "set" (emptyD w))) (hn : n ≤ 4000)
    (h : ∀ h' D, Heap.SameBut S s.heap h' → h'.get? S = some (sObj "set" D) → Tx P w D [] → Q () { s with heap := h' }) : wpAny (model P w) A (setRoomFor S n) Q E s := by
  have hd : (sObj "set" (emptyD w)).data = .set #[] 0 (.fresh 0 0 (!w.params.followText "set-order")) := rfl
  have keep : Q () s := h s.heap (emptyD w) (Heap.SameBut.refl _ _) hS tx_empty
  unfold setRoomFor
  refine wpAny_bind (wpAny_setState_of hS hd (by rfl) ?_)
  dsimp only
  unfold SetTable.roomFor
  by_cases c : ((SetTable.fresh 0 0 (!w.params.followText "set-order")).fill + n) * 5 ≥ (SetTable.fresh 0 0 (!w.params.followText "set-order")).mask * 3
  · rw [if_pos c]
    dsimp only
    generalize hw : ((SetTable.fresh 0 0 (!w.params.followText "set-order")).place.size + n) * 2 = wanted
    have hw2 : wanted ≤ 8192 := by
      have z : (SetTable.fresh 0 0 (!w.params.followText "set-order")).place.size = 0 := rfl
      rw [z] at hw
      omega
    obtain ⟨t', e, e1, e2, e3⟩ := relaid_none (SetTable.fresh 0 0 (!w.params.followText "set-order")) wanted
    rw [setRelay_eq]
    refine wpAny_bind (wpAny_setState_of hS hd (by rfl) ?_)
    dsimp only
    refine wp_if_neg (by have z := above_le hw2; rw [sizeLine_eq]; omega) ?_
    try refine wpAny_bind (wpAny_pure ?_)
    rw [show (#[] : Array (Int × Value)).map (·.1) = (#[] : Array Int) from by simp, e]
    dsimp only
    refine wpAny_bind ?_
    refine wp_if_neg (by simp) ?_
    try refine wpAny_bind (wpAny_pure ?_)
    refine wpAny_pure ?_
    dsimp only
    refine wpAny_storeSet_of hS hd ?_ (by simp)
    have sb : Heap.SameBut S s.heap (s.heap.update S (Obj.putSet ((#[] : Array Nat).filterMap ((#[] : Array (Int × Value))[·]?)) t')) := Heap.SameBut.update ..
    refine h _ (#[], 1, t') sb (store_at hS hd) ⟨TxOk.nil ?_, ?_, ?_, List.nodup_nil⟩
    · simp [SetTable.fits, SetTable.fill, e1, e2]
    · rw [e1]; exact List.Pairwise.nil
    · rw [e3]
      show _ ∨ (!w.params.followText "set-order") = true
      cases w.params.followText "set-order" <;> simp
  · rw [if_neg c]
    exact wpAny_pure keep
theorem sub_dict_set : isSubtype (.type "dict") (.type "set") = pure false := by rw [isSubtype_type]; kernel_rfl
theorem sub_dict_frozenset : isSubtype (.type "dict") (.type "frozenset") = pure false := by rw [isSubtype_type]; kernel_rfl
/-- the keys are put in, one by one -/
theorem call_set_dict {d : Addr} {vs : List (Key × Value)} {ks : List Str} {Q : Value → Shared → Prop} (hd : s.heap.DictOf (mixKind P w) d vs) (hds : (d == sysModules) = false) (hk : vs.map (·.1) = ks.map Sum.inr) (hl : ks.length ≤ 4000)
    (h : ∀ (s' : Shared) D l, (∀ b o, s.heap.get? b = some o → s'.heap.get? b = some o) → s'.gens = s.gens → s'.os = s.os → s'.heap.get? s.heap.objs.size = some (sObj "set" D) → Tx P w D l → (∀ k, k ∈ l ↔ k ∈ ks) → l.length = ks.length → Q (.ref s.heap.objs.size) s') :
    wpAny (model P w) A (call (.type "set") [.ref d]) Q E s := by
  refine set_by_init fun R hR => ?_
  obtain ⟨o, es, ep, ho, hc, hdat, hkeys, hpairs, hnd⟩ := id hd
  have hne : d ≠ s.heap.objs.size := Nat.ne_of_lt (Heap.lt_size ho)
  have hS : (s.heap.push (sObj "set" (emptyD w))).get? s.heap.objs.size = some (sObj "set" (emptyD w)) := Heap.get?_push_size _ rfl
  have ho1 : (s.heap.push (sObj "set" (emptyD w))).get? d = some o := Heap.get?_push_of_some _ ho
  have hold : ∀ b o, s.heap.get? b = some o → b ≠ s.heap.objs.size ∧ (s.heap.push (sObj "set" (emptyD w))).get? b = some o := fun b o e => ⟨Nat.ne_of_lt (Heap.lt_size e), Heap.get?_push_of_some _ e⟩
  have hty : Shared.TypeIs { s with heap := s.heap.push (sObj "set" (emptyD w)) } (.ref d) "dict" := ⟨o, ho1, hc.1⟩
  generalize s.heap.push (sObj "set" (emptyD w)) = h1 at hS ho1 hold hty ⊢
  have t1 := sub_dict_set
  have t2 := sub_dict_frozenset
  unfold Builtin.«set.__init__» noKeywords Builtin.Frozenset.updateFrom
  wp_walk
  rw [hdat]
  refine wpAny_pure ?_
  refine wpAny_bind (wpAny_dictEntries ho1 hdat ?_)
  have hlen : es.size = ks.length := by
    have e1 := hpairs.length
    have e2 := congrArg List.length hk
    rw [List.length_map, List.length_map] at e2
    rw [Array.length_toList] at e1
    omega
  have hksn : ks.Nodup := by
    have z := hnd
    rw [hk] at z
    exact (List.pairwise_map.mp z).imp fun {a b} q e => q (by rw [e])
  refine wpAny_bind (room_fresh hS (by rw [hlen]; exact hl) fun h2 D sb hS2 F => ?_)
  have ho2 : h2.get? d = some o := (sb.2 d hne).trans ho1
  refine wpAny_bind (wpAny_dictEntries ho2 hdat ?_)
  refine wpAny_bind ?_
  refine SeqAt.wpAny_forIn_span 0 es.size _ (fun i _ s' => ∃ h' D l, s' = { s with heap := h' } ∧ h'.get? s.heap.objs.size = some (sObj "set" D) ∧ Tx P w D l ∧ l.length = i ∧ (∀ k, k ∈ l ↔ k ∈ ks.take i) ∧ (∀ b o', b ≠ s.heap.objs.size → h1.get? b = some o' → h'.get? b = some o'))
    _ ?_ ?_ _ ⟨h2, D, [], rfl, hS2, F, rfl, (fun k => by simp), fun b o' n e => (sb.2 b n).trans e⟩
  · rintro i _ s' _ hi ⟨h', D1, l, rfl, g1, g2, g3, g4, g5⟩
    have ho3 := g5 d o hne ho1
    refine wpAny_bind (wpAny_dictEntries ho3 hdat ?_)
    rw [Array.getElem?_eq_getElem hi]
    have hik : i < ks.length := by omega
    obtain ⟨kv, hkv⟩ : ∃ kv, vs[i]? = some kv := by
      have e2 := congrArg List.length hk
      rw [List.length_map, List.length_map] at e2
      exact ⟨vs[i]'(by omega), List.getElem?_eq_getElem _⟩
    obtain ⟨kk, vv⟩ := kv
    obtain ⟨hkey, hval⟩ := hpairs.get? (e := es[i]) (by simp [hi]) hkv
    obtain ⟨k', hkey', hhash⟩ := hkeys es[i] (Array.getElem_mem hi)
    obtain rfl : k' = kk := (mixKind P w).inj _ _ _ hkey' hkey
    have ekk : k' = Sum.inr ks[i] := by
      have z := congrArg (fun l => l[i]?) hk
      simp only [List.getElem?_map, hkv, Option.map_some, List.getElem?_eq_getElem hik] at z
      exact Option.some.inj z
    subst ekk
    obtain ⟨tk, ev⟩ := Value.isStrOf_shape (x := ks[i]) (v := es[i].key) hkey
    show wpAny _ _ (holding [es[i].key] (setAddHashed s.heap.objs.size es[i].key es[i].hash) >>= _) _ _ _
    rw [hhash, ev]
    have hni : ks[i] ∉ l := fun z => by
      obtain ⟨j, hj, e⟩ := List.getElem_of_mem ((g4 _).mp z)
      rw [List.length_take] at hj
      rw [List.getElem_take] at e
      exact List.pairwise_iff_getElem.mp hksn j i (by omega) hik (by omega) e
    refine wpAny_bind (wpAny_holding (Froz.add_x (s := { s with heap := h' }) g1 g2.ok hni (by rw [g3]; exact Nat.lt_of_le_of_lt (show i + 1 ≤ 4000 by omega) (by decide)) ?_))
    have hS3 : (h'.update s.heap.objs.size (fun _ => sObj "set" (addTx (hashStr w ks[i]) (.str ks[i] tk) D1))).get? s.heap.objs.size = some (sObj "set" (addTx (hashStr w ks[i]) (.str ks[i] tk) D1)) := Froz.get_upd _ g1 rfl
    have other : ∀ b o', b ≠ s.heap.objs.size → h'.get? b = some o' → (h'.update s.heap.objs.size (fun _ => sObj "set" (addTx (hashStr w ks[i]) (.str ks[i] tk) D1))).get? b = some o' := fun b o' n e => (Heap.get?_update_other _ _ (Ne.symm n)).trans e
    refine wpAny_bind (wpAny_dictEpoch (other d o hne ho3) hdat ?_)
    rw [if_neg (by simp)]
    refine wpAny_pure ⟨_, _, ks[i] :: l, rfl, hS3, g2.add tk hni, (by rw [List.length_cons, g3]), fun k => ?_, fun b o' n e => other b o' n (g5 b o' n e)⟩
    rw [List.take_add_one, List.getElem?_eq_getElem hik, List.mem_append, List.mem_cons, g4 k]
    simp [Or.comm]
  · rintro _ s' ⟨h', D1, l, rfl, g1, g2, g3, g4, g5⟩
    have em : max 0 es.size = ks.length := by rw [hlen]; exact Nat.max_eq_right (Nat.zero_le _)
    rw [em] at g3 g4
    rw [List.take_length] at g4
    exact wpAny_pure (wpAny_pure (hR _ (h { s with heap := h' } D1 l (fun b o' e => g5 b o' (hold b o' e).1 (hold b o' e).2) rfl rfl g1 g2 g4 g3)))
end
end Vs

set_option Elab.async false
set_option linter.all false
set_option maxRecDepth 100000
set_option maxHeartbeats 4000000
namespace Vm
open PySem PySem.Spec PyProof.Rows L2 L2.Vx
/-! ### words as texts; dicts whose keys are words -/
def mkS (l : Wd) : Str := ⟨l.toArray⟩
theorem mkS_cps (l : Wd) : (mkS l).cps.toList = l := by simp [mkS]
theorem mkS_of (z : Str) : mkS z.cps.toList = z := by obtain ⟨⟨l⟩⟩ := z; rfl
theorem mkS_inj {a b : Wd} (h : mkS a = mkS b) : a = b := by rw [← mkS_cps a, h, mkS_cps]
theorem mkS_length (l : Wd) : (mkS l).length = l.length := by
  show l.toArray.size = _
  simp
abbrev kS (p : Wd) : Key := Sum.inr (mkS p)
theorem kS_iff {a b : Wd} : kS a = kS b ↔ a = b := ⟨fun h => mkS_inj (Sum.inr.inj h), fun h => by rw [h]⟩
def entK (f : Wd → V) (ks : List Wd) : List (Key × V) := ks.map fun k => (kS k, f k)
theorem entK_length (f : Wd → V) (ks : List Wd) : (entK f ks).length = ks.length := List.length_map _
theorem entK_keys (f : Wd → V) (ks : List Wd) : (entK f ks).map (·.1) = (ks.map mkS).map Sum.inr := by
  unfold entK
  rw [List.map_map, List.map_map]
  rfl
theorem entK_congr {f g : Wd → V} {ks : List Wd} (h : ∀ p ∈ ks, f p = g p) : entK f ks = entK g ks := List.map_congr_left fun p hp => by rw [h p hp]
theorem valV_ent (f : Wd → V) (p : Wd) : ∀ ks : List Wd, valV (entK f ks) (kS p) = if p ∈ ks then some (f p) else none
  | [] => by simp [entK, valV_nil]
  | q :: r => by
    show valV ((kS q, f q) :: entK f r) (kS p) = _
    by_cases e : q = p
    · subst e
      rw [valV_pos (p := (kS q, f q)) rfl, if_pos (List.mem_cons_self ..)]
    · rw [valV_neg (p := (kS q, f q)) (fun z => e (kS_iff.mp z)), valV_ent f p r]
      have e' : ¬ p = q := fun z => e z.symm
      simp only [List.mem_cons, e', false_or]
theorem get_ent {H : Hp} {d : Addr} {f : Wd → V} {ks : List Wd} {p : Wd} (e : H d = some (.dK (entK f ks))) (h : p ∈ ks) : DGet H d (.str (mkS p)) (some (f p)) := by
  have z := DGet.k (k := kS p) e
  rw [valV_ent, if_pos h] at z
  exact z
theorem getD_ent {f : Wd → V} {ks : List Wd} {p : Wd} {v : V} (h : p ∉ ks → f p = v) : (valV (entK f ks) (kS p)).getD v = f p := by
  rw [valV_ent]
  split
  · rfl
  · rename_i c
    exact (h c).symm
/-- f, but v at p -/
def at' (f : Wd → V) (p : Wd) (v : V) : Wd → V := fun q => if q = p then v else f q
/-- p behind the others, if it is new -/
def more (ks : List Wd) (p : Wd) : List Wd := if p ∈ ks then ks else ks ++ [p]
theorem putK_ent (f : Wd → V) (p : Wd) (v : V) (ks : List Wd) : putK (entK f ks) (kS p) v = entK (at' f p v) (more ks p) := by
  have e := valV_ent f p ks
  unfold more
  by_cases h : p ∈ ks
  · rw [if_pos h]
    rw [if_pos h] at e
    unfold putK
    rw [valV_any, e, if_pos (show (some (f p)).isSome = true from rfl)]
    unfold entK
    rw [List.map_map]
    refine List.map_congr_left fun q _ => ?_
    show (if kS q = kS p then (kS q, v) else (kS q, f q)) = (kS q, if q = p then v else f q)
    by_cases c : q = p
    · rw [if_pos (kS_iff.mpr c), if_pos c]
    · rw [if_neg (fun z => c (kS_iff.mp z)), if_neg c]
  · rw [if_neg h]
    rw [if_neg h] at e
    rw [putK_new _ e]
    unfold entK
    rw [List.map_append]
    refine congr (congrArg _ (List.map_congr_left fun q hq => ?_)) ?_
    · have c : ¬ q = p := fun z => h (z ▸ hq)
      show (kS q, f q) = (kS q, if q = p then v else f q)
      rw [if_neg c]
    · show [(kS p, v)] = [(kS p, if p = p then v else f p)]
      rw [if_pos rfl]
theorem more_nodup {ks : List Wd} (h : ks.Nodup) (p : Wd) : (more ks p).Nodup := by
  unfold more
  split
  · exact h
  · rename_i c
    refine List.nodup_append.mpr ⟨h, List.nodup_cons.mpr ⟨by simp, List.nodup_nil⟩, fun a ha b hb e => ?_⟩
    rw [List.mem_singleton.mp hb] at e
    exact c (e ▸ ha)
theorem mem_more {ks : List Wd} {p q : Wd} : q ∈ more ks p ↔ q ∈ ks ∨ q = p := by
  unfold more
  split
  · rename_i c
    exact ⟨.inl, fun h => h.elim id fun e => e ▸ c⟩
  · simp
theorem more_length (ks : List Wd) (p : Wd) : (more ks p).length ≤ ks.length + 1 := by
  unfold more
  split <;> simp
/-- the sorted texts of such keys -/
theorem sorted_is {ks : List Wd} {ys : List Str} (p : ys.Perm (ks.map mkS)) (u : SrtO.UpS ys) (d : ks.Nodup) : ys = (asc ks).map mkS := by
  have p2 : (ys.map fun y => y.cps.toList).Perm ks := by
    have z := p.map fun y : Str => y.cps.toList
    rw [List.map_map] at z
    have e : (fun y : Str => y.cps.toList) ∘ mkS = id := funext mkS_cps
    rw [e, List.map_id] at z
    exact z
  have u2 : (ys.map fun y => y.cps.toList).Pairwise (fun x y => ¬ y < x) := List.pairwise_map.mpr u
  have u3 := up_of_le u2 (p2.nodup_iff.mpr d)
  have e := up_uniq u3 (up_asc ks) fun x => by rw [mem_asc]; exact p2.mem_iff
  rw [← e, List.map_map]
  have e2 : mkS ∘ (fun y : Str => y.cps.toList) = id := funext mkS_of
  rw [e2, List.map_id]
/-! ### pairs of a word and a number, as data -/
abbrev pairD (f : Wd → Int) (p : Wd) : PyData := .tuple [.str (mkS p), .int (f p)]
def pairsD (f : Wd → Int) (l : List Wd) : PyData := .tuple (l.map (pairD f))
theorem dtAll_snoc {H : Hp} {S : Addr → Prop} {D t : Addr} {vs ws : List V} {ds : List PyData} {d : PyData} {o : HO} (h : DtAll H S vs ds) (hS : ∀ a, S a → a ≠ D) (ht : H t = none) (st : S t) (e : Dt (upd (upd H t (.tup ws)) D o) S (.ref t) d) :
    DtAll (upd (upd H t (.tup ws)) D o) S (vs ++ [.ref t]) (ds ++ [d]) := by
  refine DtAll.append (h.mono (fun a u sa hu => ?_) fun _ _ s _ => s) (.cons e .nil)
  rw [upd_ne (hS a sa), upd_ne (ne_of_none hu ht)]
  exact hu
end Vm

set_option Elab.async false
set_option linter.all false
set_option maxRecDepth 100000
set_option maxHeartbeats 4000000
namespace Vs
open PySem PySem.Spec PyProof.Rows L2 SrtO Vm
open PySem.Froz (SD sObj addTx tailTx sing TxOk)
section
variable {P : Program} {w : World} {A : Around} {E : Value → Shared → Prop} {s : Shared}
theorem mkS_nodup {ks : List Wd} (h : ks.Nodup) : (ks.map mkS).Nodup := List.Pairwise.map mkS (fun a b n e => n (mkS_inj e)) h
/-- sorted(set of texts), any number of them -/
theorem sorted_set_any {a : Addr} {D : SD} {l : List Str} {Q : Value → Shared → Prop} (ho : s.heap.get? a = some (sObj "set" D)) (F : Tx P w D l) (hh : A.handled = none) (hl : l.length < scanBound)
    (h : ∀ (s' : Shared) p (out : List Value) (c : Nat) (ys : List Str), (∀ b o, s.heap.get? b = some o → s'.heap.get? b = some o) → s'.gens = s.gens → s'.os = s.os → s.heap.objs.size ≤ p →
      s'.heap.get? p = some (seqObj "list" out.toArray c) → StrsAre out ys → ys.Perm l → UpS ys → Q (.ref p) s') :
    wpAny (model P w) A (call (.builtin "sorted") [.ref a]) Q E s := by
  obtain ⟨v1, v2⟩ := F.vals
  have hsz : D.1.size = l.length := F.ok.sz
  refine Calls.call_function_entry kind_sorted plain_sorted entry_sorted (args_sorted1 _) ?_
  unfold Builtin.«sorted»
  refine wpAny_bind (m := checkCount "sorted" 1 1 _) (wpAny_pure ?_)
  refine wpAny_bind (collect_set (A := A.in1) (es := D.1) (ep := D.2.1) (t := D.2.2) hh ⟨_, ho, rfl, rfl⟩ F.ok.fit (by rw [hsz]; exact hl) F.ris F.led fun s1 vs k1 z1 g1 o1 pm => ?_)
  have len : vs.length = l.length := by rw [pm.length_eq, List.length_map, Array.length_toList, hsz]
  have hS : StrsAre vs (vs.map strOf) := strs_of vs fun v hv => by
    obtain ⟨e, he, rfl⟩ := List.mem_map.mp (pm.mem_iff.mp hv)
    obtain ⟨k, tk, q, _⟩ := v1 e he
    exact ⟨k, tk, q⟩
  have pl : (vs.map strOf).Perm l := (pm.map strOf).trans (by rw [List.map_map]; exact v2)
  have hz : vs.length ≤ sizeLine := by
    rw [len, sizeLine_eq]
    exact Nat.le_trans (Nat.le_of_lt hl) (by decide)
  refine sort_collected hS hz fun h' p out c ys k2 hp hc y1 y2 y3 => ?_
  exact wpAny_pure ⟨_, rfl, h _ p out c ys (fun b u e => k2 b u (k1 b u e)) g1 o1 (Nat.le_trans z1 hp) hc y1 (y2.trans pl) y3⟩
end
section
variable {X : Cx}
/-- set(d) -/
theorem cr_setDict (hc : X.calm = true) : CallR X (.type "set") (fun xs H Q => ∃ (a : Addr) (f : Wd → V) (ks : List Wd), xs = [.ref a] ∧ Rd H a (.dK (entK f ks)) ∧ ks.Nodup ∧ ks.length ≤ 4000 ∧ ∀ p l, H p = none → l.Perm (ks.map mkS) → Q (.ref p) (upd H p (SetTxO X.prog X.w p l))) := by
  intro pins s σ H vs us Q I r h
  obtain ⟨a, f, ks, rfl, ha, nd, hl, q⟩ := h
  rw [Vals.ref1 r]
  obtain ⟨z, lo, ws, rel, dd⟩ := dk_rd I.hok ha
  have hkeys : ws.map (·.1) = (ks.map mkS).map Sum.inr := rel.keys.symm.trans (entK_keys f ks)
  refine call_set_dict dd lo hkeys (by rw [List.length_map]; exact hl) fun s' D l k g o hS F hm hn => ?_
  exact laid_new I k g o (Nat.le_refl _) (setTxO_new ⟨D, hS, F⟩) fun hn' => q _ l hn' ((perm_same (ks.map mkS) l (mkS_nodup nd) (fun k hk => (hm k).mpr hk) (Nat.le_of_eq hn)))
/-- sorted(set of texts) -/
theorem cr_sortedTxK (hc : X.calm = true) : CallR X (.builtin "sorted") (fun xs H Q => ∃ (a : Addr) (l : List Str) (ks : List Wd), xs = [.ref a] ∧ H a = some (SetTxO X.prog X.w a l) ∧ l.Perm (ks.map mkS) ∧ ks.Nodup ∧ ks.length ≤ 4000 ∧
    ∀ p, H p = none → Q (.ref p) (upd H p (.lst (((asc ks).map mkS).map .str)))) := by
  intro pins s σ H vs us Q I r h
  obtain ⟨a, l, ks, rfl, ha, pl, nd, hl, q⟩ := h
  rw [Vals.ref1 r]
  obtain ⟨D, hS, F⟩ : SetTx X.prog X.w s.heap a l := (I.hok a _ ha).1
  have ll : l.length = ks.length := by rw [pl.length_eq, List.length_map]
  refine sorted_set_any hS F (I.ok.hd hc) (by rw [ll]; exact Nat.lt_of_le_of_lt hl (by decide)) fun s' p out c ys k g o hp hg hv pm so => ?_
  have e := sorted_is (pm.trans pl) so nd
  have len : (ys.map V.str).length ≤ sizeLine := by
    rw [List.length_map, pm.length_eq, ll, sizeLine_eq]
    omega
  have new : ObjOk X.prog X.w (upd H p (.lst (ys.map V.str))) s'.heap p (.lst (ys.map .str)) := ⟨len, out, c, vals_of_strs hv, hg⟩
  refine laid_new I k g o hp new fun hn => ?_
  rw [e]
  exact q p hn
theorem cr_setDictAt {P : Program} {w : World} (hc : X.calm = true) (eP : X.prog = P) (ew : X.w = w) : CallR X (.type "set") (fun xs H Q => ∃ (a : Addr) (f : Wd → V) (ks : List Wd), xs = [.ref a] ∧ Rd H a (.dK (entK f ks)) ∧ ks.Nodup ∧ ks.length ≤ 4000 ∧ ∀ p l, H p = none → l.Perm (ks.map mkS) → Q (.ref p) (upd H p (SetTxO P w p l))) := by
  subst eP
  subst ew
  exact cr_setDict hc
theorem cr_sortedTxAt {P : Program} {w : World} (hc : X.calm = true) (eP : X.prog = P) (ew : X.w = w) : CallR X (.builtin "sorted") (fun xs H Q => ∃ (a : Addr) (l : List Str) (ks : List Wd), xs = [.ref a] ∧ H a = some (SetTxO P w a l) ∧ l.Perm (ks.map mkS) ∧ ks.Nodup ∧ ks.length ≤ 4000 ∧
    ∀ p, H p = none → Q (.ref p) (upd H p (.lst (((asc ks).map mkS).map .str)))) := by
  subst eP
  subst ew
  exact cr_sortedTxK hc
/-- sorted(d), the keys texts -/
theorem cr_sortedDK (hc : X.calm = true) : CallR X (.builtin "sorted") (fun xs H Q => ∃ (a : Addr) (f : Wd → V) (ks : List Wd), xs = [.ref a] ∧ Rd H a (.dK (entK f ks)) ∧ ks.Nodup ∧ ks.length ≤ 4000 ∧
    ∀ p, H p = none → Q (.ref p) (upd H p (.lst (((asc ks).map mkS).map .str)))) := by
  intro pins s σ H xs us Q I r q
  obtain ⟨a, f, kl, ex, hd, nd, hl4, q⟩ := q
  subst ex
  rw [Vals.ref1 r]
  obtain ⟨z, lo, vs, rel, dd⟩ := dk_rd I.hok hd
  obtain ⟨ep, hat⟩ := dd.dictAt
  generalize hkk : kl.map mkS = ks
  have hkeys : vs.map (·.1) = ks.map Sum.inr := by rw [← hkk]; exact rel.keys.symm.trans (entK_keys f kl)
  have hl : vs.length = ks.length := by
    have e := congrArg List.length hkeys
    rw [List.length_map, List.length_map] at e
    exact e
  have hl5 : ks.length ≤ 4000 := by rw [← hkk, List.length_map]; exact hl4
  have h16 : vs.length ≤ sizeLine := by rw [hl, sizeLine_eq]; omega
  refine Calls.call_function_entry PyProof.Rows.kind_sorted PyProof.Rows.plain_sorted PyProof.Rows.entry_sorted (PyProof.Rows.args_sorted1 _) ?_
  unfold Builtin.«sorted»
  refine wpAny_bind (m := checkCount "sorted" 1 1 _) (wpAny_pure ?_)
  refine wpAny_bind (PySem.W.kdu_collect (A := X.A.in1) (PySem.W.kdl_dict (knd := mixKind X.prog X.w) (kvs := vs) (ep := ep) lo) (I.ok.hd hc) hat h16 fun h' tk acc hk hacc => ?_)
  have hal : acc.toList.length = ks.length := by rw [Array.length_toList, hacc.1, hl]
  have hS : StrsAre acc.toList ks := strs_at hal fun j v e => by
    obtain ⟨k, x, e1, e2⟩ := hacc.2 j v (by rw [← Array.getElem?_toList]; exact e)
    have e3 : (vs.map (·.1))[j]? = some k := by rw [List.getElem?_map, e1]; all_goals rfl
    rw [hkeys, List.getElem?_map] at e3
    cases e4 : ks[j]? with
    | none => rw [e4] at e3; cases e3
    | some y =>
      rw [e4] at e3
      have e5 : Sum.inr y = k := Option.some.inj e3
      subst e5
      obtain ⟨t, ev⟩ := Value.isStrOf_shape (x := y) (v := v) e2
      exact ⟨y, t, rfl, ev⟩
  have I1 : Inv X pins σ H { s with heap := h', toks := tk } := I.kept hk
  have hz : acc.toList.length ≤ sizeLine := by rw [hal, sizeLine_eq]; omega
  refine sort_collected (s1 := { s with heap := h', toks := tk }) hS hz fun h2 p out c ys k2 hp hc2 y1 y2 y3 => ?_
  have e := sorted_is (by rw [hkk]; exact y2) y3 nd
  have len : (ys.map V.str).length ≤ sizeLine := by
    rw [List.length_map, y2.length_eq, sizeLine_eq]
    omega
  have new : ObjOk X.prog X.w (upd H p (.lst (ys.map V.str))) h2 p (.lst (ys.map .str)) := ⟨len, out, c, vals_of_strs y1, hc2⟩
  refine wpAny_pure ⟨_, rfl, laid_new (s' := { s with heap := h2, toks := tk }) I1 k2 rfl rfl hp new fun hn => ?_⟩
  rw [e]
  exact q p hn
end
end Vs

set_option Elab.async false
set_option linter.all false
set_option maxRecDepth 100000
set_option maxHeartbeats 4000000
namespace Vf
open PySem PySem.Spec PyProof.Rows L2 L2.Vx Vs Vm
abbrev sPairs : Stmt := top 6
abbrev sPieces : Stmt := top 7
/-- what is new since H -/
def New (H : Hp) : Addr → Prop := fun a => H a = none
theorem dt_same {H H' : Hp} {S : Addr → Prop} {v : V} {D : PyData} (h : Dt H S v D) (s : Same H H') : Dt H' S v D := h.mono (fun a o _ e => s a o e) fun _ _ x _ => x
theorem dt_new {H0 H1 H : Hp} {v : V} {D : PyData} (h : Dt H (New H1) v D) (s : Same H0 H1) : Dt H (New H0) v D := h.mono (fun _ _ _ e => e) fun _ _ x _ => s.free x
/-- in_pairs: a new tuple of pairs, ascending -/
def spPairs (K : PySem.W.Frag) : Sp := fun vs H Q _ => ∃ (d : Addr) (f : Wd → Int) (ks : List Wd), vs = [.ref d] ∧ H d = some (.dK (entK (fun p => .int (f p)) ks)) ∧ ks.Nodup ∧ ks.length ≤ 4000 ∧
  ∀ v H', Same H H' → Dt H' (New H) v (pairsD f (asc ks)) → Q v H'
/-- pieces_of -/
def piecesD (k : Nat) (z : Wd) : PyData := pairsD (fun p => (often k z p : Int)) (asc (wins k z))
def spPieces (K : PySem.W.Frag) : Sp := fun vs H Q _ => ∃ (k : Nat) (z : Wd), vs = [.int k, .str (mkS z)] ∧ 1 ≤ k ∧ k ≤ 1000000 ∧ z.length ≤ 4000 ∧
  ∀ v H', Same H H' → Dt H' (New H) v (piecesD k z) → Q v H'
structure TxtP (mg : Str → Option Value) : Prop where
  tuple : mg "tuple" = none
  sorted : mg "sorted" = none
  set : mg "set" = none
  range : mg "range" = none
  len : mg "len" = none
theorem cut_win {k i : Nat} {z : Wd} (h : i < z.length + 1 - k) : cutS (mkS z) (some (i : Int)) (some ((i : Int) + k)) = mkS (win k z i) := by
  have hl : (mkS z).length = z.length := mkS_length z
  unfold cutS
  rw [hl, mkS_cps]
  have e1 : HT.sIx z.length 0 (some (i : Int)) = min i z.length := HT.sIx_nat _ _ i
  have e2 : HT.sIx z.length z.length (some ((i : Int) + k)) = min (i + k) z.length := HT.sIx_nat _ _ (i + k)
  rw [e1, e2, Nat.min_eq_left (by omega : i ≤ z.length), Nat.min_eq_left (by omega : i + k ≤ z.length), Nat.add_sub_cancel_left]
  rfl
section
variable {P : Program} {w : World} {K : PySem.W.Frag} {mg : Str → Option Value} {base : Heap}
theorem scPairs : FnScope ["numbers", "piece"] ["numbers"] (defScope sPairs) := ⟨rfl, rfl, rfl, by decide +kernel, rfl, by decide +kernel, by decide +kernel⟩
theorem scPieces : FnScope ["width", "text", "numbers", "start", "piece"] ["width", "text"] (defScope sPieces) := ⟨rfl, rfl, rfl, by decide +kernel, rfl, by decide +kernel, by decide +kernel⟩
theorem str_at {ks : List Wd} {i : Nat} {y : V} (h : ((ks.map mkS).map V.str)[i]? = some y) : ∃ p, ks[i]? = some p ∧ y = .str (mkS p) := by
  rw [List.getElem?_map, List.getElem?_map] at h
  cases e : ks[i]? with
  | none => rw [e] at h; cases h
  | some p => rw [e] at h; exact ⟨p, rfl, (Option.some.inj h).symm⟩
theorem ok_pairs {f : Addr} {fd : FuncData} (F : Fun K "in_pairs" "in_pairs" sPairs f fd) (T : TxtP mg) : FnOk P w K mg base CX0 1 f fd ["numbers"] (spPairs K) := by
  refine F.ok scPairs (fun vs H Q E h => ?_) (fun cdv A outer s H vs Q E hr h => ?_)
  · obtain ⟨d, g, ks, rfl, _⟩ := h
    rfl
  obtain ⟨d, g, ks, rfl, hd, nd, hl, q⟩ := h
  have hu := hu_of hr
  refine ⟨_, pss_one (ps_ret (pe_callTy call_tuple_of (by rfl) T.tuple (by decide +kernel) (pa_cons (pe_lc (own := [("piece", 1)]) (g := gName 1) (tt := tYes) rfl scPairs.nd
      (pi_list (pe_callB (cr_sortedTxAt (P := P) (w := w) rfl rfl rfl) (by rfl) T.sorted (by decide +kernel) (pa_cons (pe_callTy (cr_setDictAt (P := P) (w := w) rfl rfl rfl) (by rfl) T.set (by decide +kernel) (pa_cons (pv 0) pa_nil)) pa_nil)))
      (blkOk_by (N := ["numbers", "piece"]) (sc := defScope sPairs) (by decide +kernel)) (fun _ _ _ _ _ => pg_name (i := 1) scPairs.nd rfl (Or.inl rfl)) (fun _ _ _ _ _ => pts_nil)
      (fun _ _ _ _ _ => by exact pe_tup (pa_cons (pv 1) (pa_cons (pe_dget hu (pv 0) (pv 1) (fun _ _ => rfl)) pa_nil)))) pa_nil))), ?_⟩
  refine ⟨_, rfl, d, _, ks, rfl, .inl hd, nd, hl, fun p l hp hpl => ?_⟩
  have s1 := same_new hp (SetTxO P w p l)
  refine ⟨p, l, ks, rfl, upd_same, hpl, nd, hl, fun u hu' => ?_⟩
  have s2 := s1.trans (same_new hu' (.lst (((asc ks).map mkS).map .str)))
  have eu : upd (upd H p (SetTxO P w p l)) u (.lst (((asc ks).map mkS).map .str)) u = some (.lst (((asc ks).map mkS).map .str)) := upd_same
  have ed := s2 _ _ hd
  generalize upd (upd H p (SetTxO P w p l)) u (.lst (((asc ks).map mkS).map .str)) = H1 at s2 eu ed ⊢
  refine ⟨u, rfl, ⟨_, SqL.of eu⟩, fun D hD => ?_⟩
  have hD0 := s2.free hD
  have la := asc_length_le ks
  refine lc_it (walk_list (xs := ((asc ks).map mkS).map .str)) (fun i H' => ∃ vs, H' D = some (.lst vs) ∧ vs.length = i ∧ DtAll H' (fun a => H1 a = none ∧ a ≠ D) vs (((asc ks).take i).map (pairD g)) ∧ Same H1 H')
    ⟨[], upd_same, rfl, .nil, same_new hD _⟩ (fun i H' _ ⟨_, _, _, _, s⟩ => s.seq (SqL.of eu)) ?_ ?_
  · rintro i x H2 H3 hi ⟨vs, k1, k2, k3, k4⟩ ⟨rfl, hx⟩
    obtain ⟨y, hy, rfl⟩ := str_at hx
    have hyk : y ∈ ks := mem_asc.mp (List.mem_of_getElem? hy)
    refine ⟨rfl, _, rfl, _, rfl, _, rfl, d, _, rfl, get_ent (k4 _ _ ed) hyk, (by show 2 ≤ sizeLine; decide), fun t ht => ?_⟩
    have htD : t ≠ D := (ne_of_none k1 ht).symm
    have hil : i < (asc ks).length := by rw [List.length_map, List.length_map] at hi; exact hi
    have ht1 : H1 t = none := k4.free ht
    refine ⟨_, by rw [upd_ne htD.symm]; exact k1, (by rw [k2, sizeLine_eq]; omega), vs ++ [.ref t], upd_same, by rw [List.length_append, k2]; rfl, ?_, fun b o e => ?_⟩
    · rw [List.take_add_one, hy, List.map_append]
      exact dtAll_snoc k3 (fun a z => z.2) ht ⟨ht1, htD⟩ (.tup (xs := [.str (mkS y), .int (g y)]) (by rw [upd_ne htD]; exact upd_same) ⟨ht1, htD⟩ (.cons (.flat (show FlatD (.str (mkS y)) (.str (mkS y)) from rfl)) (.cons (.flat (show FlatD (.int (g y)) (.int (g y)) from rfl)) .nil)))
    · rw [upd_ne (ne_of_none e hD)]
      exact same_new ht _ _ _ (k4 b o e)
  · rintro H2 ⟨vs, k1, k2, k3, k4⟩
    rw [List.length_map, List.length_map, List.take_length] at k3
    refine ⟨D, _, rfl, .inl ⟨SqL.of k1, fun t ht => ?_⟩⟩
    have s3 := same_new ht (.tup vs)
    refine q _ _ ((s2.trans k4).trans s3) (.tup upd_same ((s2.trans k4).free ht) (k3.mono (fun a o _ e => s3 a o e) fun a o sa _ => s2.free sa.1))
theorem ok_pieces {f fA : Addr} {fd fdA : FuncData} (F : Fun K "pieces_of" "pieces_of" sPieces f fd) (T : TxtP mg)
    (GA : FnOk P w K mg base CX0 1 fA fdA ["numbers"] (spPairs K)) (bA : Binds K fdA ["numbers"] []) (kA : PySem.W.keepIn K (.ref fA) = true) (mA : mg "in_pairs" = some (.ref fA)) :
    FnOk P w K mg base CX0 2 f fd ["width", "text"] (spPieces K) := by
  refine F.ok scPieces (fun vs H Q E h => ?_) (fun cdv A outer s H vs Q E hr h => ?_)
  · obtain ⟨k, z, rfl, _⟩ := h
    rfl
  obtain ⟨k, z, rfl, hk1, hk2, hz, q⟩ := h
  have hu := hu_of hr
  refine ⟨_, pss_cons (ps_set (i := 2) scPieces.nd rfl (Or.inl rfl) pe_dnewK)
    (pss_cons (ps_for PassesOwn.never rfl (pi_range1 rfl T.range (pa_cons (pe_op op_add (pe_op op_sub (pe_callB call_len_str (by rfl) T.len PySem.boot_len (pa_cons (pv 1) pa_nil)) (pv 0)) pe_int) pa_nil)) (pg_name (i := 3) scPieces.nd rfl (Or.inl rfl))
      (pss_cons (ps_set (i := 4) scPieces.nd rfl (Or.inl rfl) (pe_slice sl_str (pv 1) (po_some (pv 3)) (po_some (pe_op op_add (pv 3) (pv 0)))))
      (pss_one (ps_dput hu (pv 2) (pv 4) (pe_op op_add (pe_dget2 hu (pv 2) (pv 4) pe_int ⟨rfl, rfl, rfl, rfl⟩) pe_int) rfl))))
    (pss_one (ps_ret (pe_call GA hr rfl mA kA bA .nil pass0 (pa_cons (pv 2) pa_nil))))), ?_⟩
  intro d hd
  have hlz : (mkS z).length = z.length := mkS_length z
  have hz16 : (mkS z).length ≤ sizeLine := by rw [hlz, sizeLine_eq]; omega
  refine ⟨_, rfl, _, rfl, hz16, _, rfl, _, _, rfl, rfl, _, _, rfl, rfl, _, rfl, by rw [hlz]; omega, by rw [hlz]; omega, ?_⟩
  have hn : ((((mkS z).length : Nat) : Int) - k + 1).toNat = z.length + 1 - k := by rw [hlz]; omega
  rw [hn]
  refine for_range (lo := 0) (n := z.length + 1 - k) (fun i σ H' => ∃ (v3 v4 : Option V) (ks : List Wd), σ = [some (.int k), some (.str (mkS z)), some (.ref d), v3, v4] ∧ ks.Nodup ∧ (∀ p, p ∈ ks ↔ p ∈ (wins k z).take i) ∧ ks.length ≤ i ∧
      H' d = some (.dK (entK (fun p => .int (upto k z p i : Nat)) ks)) ∧ Same H H') ⟨none, none, [], rfl, List.nodup_nil, fun p => by simp, Nat.le_refl _, upd_same, same_new hd _⟩ ?_ ?_
  · rintro i σ H1 hi ⟨v3, v4, ks, rfl, nd, mem, hl, hd1, s1⟩
    refine ⟨_, rfl, _, rfl, _, rfl, _, rfl, _, rfl, _, _, rfl, rfl, _, rfl, _, rfl, hz16, ?_⟩
    rw [show ((0 : Int) + (i : Nat)) = (i : Nat) from Int.zero_add _, cut_win hi]
    refine ⟨_, rfl, d, rfl, .inl ⟨_, .inl hd1⟩, _, rfl, _, DGet.k (k := kS (win k z i)) hd1, ?_⟩
    rw [getD_ent (f := fun p => V.int (upto k z p i : Nat)) (v := .int 0) fun c => by rw [upto_zero fun x => c ((mem _).mpr x)]; rfl]
    refine ⟨_, _, rfl, rfl, _, rfl, _, rfl, d, _, rfl, DPut.k (k := kS (win k z i)) hd1 (by rw [entK_length, sizeLine_eq]; omega), ?_⟩
    refine ⟨_, _, more ks (win k z i), rfl, more_nodup nd _, fun p => ?_, Nat.le_trans (more_length _ _) (Nat.succ_le_succ hl), ?_, fun b o e => ?_⟩
    · rw [mem_more, mem_take_succ hi, mem p]
    · rw [upd_same, putK_ent]
      refine congrArg (fun x => some (HO.dK x)) (entK_congr fun p _ => ?_)
      unfold at'
      by_cases c : p = win k z i
      · subst c
        rw [if_pos rfl, upto_hit hi rfl]
        rfl
      · rw [if_neg c, upto_miss hi c]
    · rw [upd_ne (ne_of_none e hd)]
      exact s1 b o e
  · rintro σ H1 ⟨v3, v4, ks, rfl, nd, mem, hl, hd1, s1⟩
    have e0 : (wins k z).take (z.length + 1 - k) = wins k z := List.take_of_length_le (by rw [wins_length]; exact Nat.le_refl _)
    rw [e0] at mem
    refine ⟨_, rfl, d, _, ks, rfl, hd1, nd, by omega, fun v H2 s2 hv => ?_⟩
    refine q v H2 (s1.trans s2) ?_
    unfold piecesD
    rw [← asc_congr mem]
    have e1 : (fun p => ((upto k z p (z.length + 1 - k) : Nat) : Int)) = fun p => ((often k z p : Nat) : Int) := funext fun p => by rw [upto_all (Nat.le_refl _)]
    rw [← e1]
    exact dt_new hv s1
end
end Vf

set_option Elab.async false
set_option linter.all false
set_option maxRecDepth 100000
set_option maxHeartbeats 4000000
namespace Vm
open PySem PySem.Spec PyProof.Rows L2 L2.Vx
/-! ### texts: joined signs, so many times, slices, find -/
theorem glue0 : ∀ (l : List Str) (a : Array Nat), (l.foldl (fun acc p => acc ++ (#[] : Array Nat) ++ p.cps) a).toList = a.toList ++ l.flatMap (fun p => p.cps.toList)
  | [], a => by simp
  | p :: r, a => by
    rw [List.foldl_cons, glue0 r]
    simp
theorem join_cps (ys : List Str) : (PySem.Txt.join "" ys).cps.toList = ys.flatMap fun y => y.cps.toList := by
  show ((ys.drop 1).foldl (fun acc p => acc ++ (#[] : Array Nat) ++ p.cps) (ys.headD Str.empty).cps).toList = _
  rw [glue0]
  cases ys with
  | nil => rfl
  | cons y r => simp
theorem join_signs (us : Wd) : PySem.Txt.join "" (us.map fun c => mkS [c]) = mkS us := by
  rw [← mkS_of (PySem.Txt.join "" (us.map fun c => mkS [c])), join_cps]
  congr 1
  induction us with
  | nil => rfl
  | cons c r ih =>
    rw [List.map_cons, List.flatMap_cons, ih]
    rfl
theorem sum_signs : ∀ us : Wd, ((us.map fun c => mkS [c]).map (·.length)).sum = us.length
  | [] => rfl
  | c :: r => by
    rw [List.map_cons, List.map_cons, List.sum_cons, sum_signs r, List.length_cons]
    show 1 + r.length = _
    omega
theorem fold_rep (x : Array Nat) : ∀ (n : Nat) (a : Array Nat), ((List.replicate n x).foldl (· ++ ·) a).toList = a.toList ++ (List.replicate n x.toList).flatten
  | 0, a => by simp
  | n + 1, a => by
    rw [List.replicate_succ, List.foldl_cons, fold_rep x n, List.replicate_succ, List.flatten_cons]
    simp
/-- a word so many times -/
def times (n : Nat) (z : Wd) : Wd := (List.replicate n z).flatten
theorem times_length (n : Nat) (z : Wd) : (times n z).length = n * z.length := by
  unfold times
  rw [List.length_flatten, List.map_replicate, List.sum_replicate_nat]
theorem times_mem {n : Nat} {z : Wd} {c : Nat} (h : c ∈ times n z) : c ∈ z := by
  obtain ⟨l, hl, hc⟩ := List.mem_flatten.mp h
  rw [List.eq_of_mem_replicate hl] at hc
  exact hc
theorem mul_times (z : Wd) (n : Nat) : PySem.Txt.mul (mkS z) (n : Int) = mkS (times n z) := by
  unfold PySem.Txt.mul
  by_cases h0 : (n : Int) < 1
  · rw [if_pos h0]
    obtain rfl : n = 0 := by omega
    rfl
  · rw [if_neg h0]
    by_cases h1 : ((n : Int) == 1 || (mkS z).length == 0) = true
    · rw [if_pos h1]
      rcases Bool.or_eq_true_iff.mp h1 with e | e
      · obtain rfl : n = 1 := by
          have := eq_of_beq e
          omega
        simp [times]
      · have e2 : z.length = 0 := by
          have := eq_of_beq e
          rw [mkS_length] at this
          exact this
        obtain rfl : z = [] := List.length_eq_zero_iff.mp e2
        have e3 : times n [] = [] := List.length_eq_zero_iff.mp (by rw [times_length]; simp)
        rw [e3]
    · rw [if_neg h1]
      have e : (n : Int).toNat = n := by omega
      rw [e, ← mkS_of (⟨_⟩ : Str)]
      congr 1
      show ((List.replicate n (mkS z).cps).foldl (· ++ ·) #[]).toList = _
      rw [fold_rep, mkS_cps]
      rfl
theorem mulOk_of {z : Wd} {n : Nat} (h1 : z.length ≤ 4000) (h2 : n ≤ 4000) : MulOk (mkS z) (n : Int) := by
  unfold MulOk
  rw [mkS_length]
  have e : (n : Int).toNat = n := by omega
  rw [e]
  refine ⟨?_, fun h3 _ h5 => ?_, fun _ _ => ?_⟩
  · have a1 : ¬ (n : Int) < -(2 ^ 63 : Int) := by omega
    have a2 : ¬ (n : Int) ≥ 2 ^ 63 := by omega
    rw [decide_eq_false a1, decide_eq_false a2]
    rfl
  · have : (4000 : Int) ≤ (2 ^ 63 - 1) / n := by
      rw [Int.le_ediv_iff_mul_le (by omega)]
      omega
    omega
  · have : z.length * n ≤ 4000 * 4000 := Nat.mul_le_mul h1 h2
    unfold Builtin.Str.tooLong
    rw [decide_eq_false]
    rw [sizeLine_eq]
    omega
theorem cut_head {z : Wd} (n : Nat) : cutS (mkS z) none (some (n : Int)) = mkS (z.take n) := by
  unfold cutS
  rw [mkS_length, mkS_cps]
  have e1 : HT.sIx z.length 0 none = 0 := rfl
  have e2 : HT.sIx z.length z.length (some (n : Int)) = min n z.length := HT.sIx_nat _ _ n
  rw [e1, e2, List.drop_zero, Nat.sub_zero]
  show mkS (z.take (min n z.length)) = _
  congr 1
  rw [List.take_eq_take_iff]
  omega
/-- find from a place on -/
theorem at_win {k : Nat} {z p : Wd} (hp : p.length = k) (i : Nat) : StrLaws.At (mkS z) (mkS p) (mkS z).length i ↔ i < z.length + 1 - k ∧ win k z i = p := by
  unfold StrLaws.At
  rw [StrLaws.subAt_eq, mkS_length, mkS_length, mkS_cps, mkS_cps, hp, beq_iff_eq]
  constructor
  · rintro ⟨h1, h2⟩
    exact ⟨by omega, h2⟩
  · rintro ⟨h1, h2⟩
    exact ⟨by omega, h2⟩
theorem find3_win {k j : Nat} {z p : Wd} (hp : p.length = k) (hj : j ≤ z.length) :
    (PySem.Txt.find3 (mkS z) (mkS p) (j : Int) = -1 ∧ ∀ i, j ≤ i → i < z.length + 1 - k → win k z i ≠ p) ∨
    ∃ i : Nat, PySem.Txt.find3 (mkS z) (mkS p) (j : Int) = (i : Int) ∧ j ≤ i ∧ i < z.length + 1 - k ∧ win k z i = p ∧ ∀ i', j ≤ i' → i' < i → i' < z.length + 1 - k → win k z i' ≠ p := by
  have ef : fromIndex (mkS z).length (j : Int) = j := by
    rw [mkS_length]
    simp [fromIndex]
    try omega
  unfold PySem.Txt.find3
  rw [ef]
  rcases StrLaws.occ_head_from (mkS z) (mkS p) j 1 (Nat.le_refl 1) with ⟨h0, hn⟩ | ⟨i, r, h0, hlo, hk, hn⟩
  · rw [h0]
    exact .inl ⟨rfl, fun i h1 h2 e => hn i h1 ((at_win hp i).mpr ⟨h2, e⟩)⟩
  · rw [h0]
    obtain ⟨h2, e⟩ := (at_win hp i).mp hk
    exact .inr ⟨i, rfl, hlo, h2, e, fun i' h3 h4 h5 e' => hn i' h3 h4 ((at_win hp i').mpr ⟨h5, e'⟩)⟩
theorem find_win {k : Nat} {z p : Wd} (hp : p.length = k) :
    (PySem.Txt.find (mkS z) (mkS p) = -1 ∧ ∀ i, 0 ≤ i → i < z.length + 1 - k → win k z i ≠ p) ∨
    ∃ i : Nat, PySem.Txt.find (mkS z) (mkS p) = (i : Int) ∧ 0 ≤ i ∧ i < z.length + 1 - k ∧ win k z i = p ∧ ∀ i', 0 ≤ i' → i' < i → i' < z.length + 1 - k → win k z i' ≠ p := by
  rw [find_is_find3]
  exact find3_win (j := 0) hp (Nat.zero_le _)
/-- what the search has found so far -/
def Seen (k : Nat) (z p : Wd) (found at_ : Int) : Prop := (at_ = -1 ∧ found = (often k z p : Nat)) ∨ ∃ i : Nat, at_ = (i : Int) ∧ i < z.length + 1 - k ∧ win k z i = p ∧ found = (upto k z p i : Nat)
theorem seen_start {k : Nat} {z p : Wd} (hp : p.length = k) : Seen k z p 0 (PySem.Txt.find (mkS z) (mkS p)) := by
  have e0 : upto k z p 0 = 0 := rfl
  rcases find_win (z := z) hp with ⟨h, hn⟩ | ⟨i, h, _, h1, h2, h3⟩
  · refine .inl ⟨h, ?_⟩
    have e := upto_none (Nat.zero_le (z.length + 1 - k)) fun i a b c => hn i a c
    rw [upto_all (Nat.le_refl _), e0] at e
    rw [e]
    rfl
  · refine .inr ⟨i, h, h1, h2, ?_⟩
    rw [upto_none (Nat.zero_le i) h3, e0]
    rfl
theorem seen_next {k i : Nat} {z p : Wd} (hp : p.length = k) (hk : 1 ≤ k) (h1 : i < z.length + 1 - k) (h2 : win k z i = p) : Seen k z p ((upto k z p i : Nat) + 1) (PySem.Txt.find3 (mkS z) (mkS p) ((i : Int) + 1)) := by
  have e0 := upto_hit h1 h2
  have ej : ((i : Int) + 1) = ((i + 1 : Nat) : Int) := by omega
  rw [ej]
  rcases find3_win (z := z) (j := i + 1) hp (by omega) with ⟨h, hn⟩ | ⟨j, h, h0, h3, h4, h5⟩
  · refine .inl ⟨h, ?_⟩
    have e := upto_none (k := k) (z := z) (p := p) (a := i + 1) (b := z.length + 1 - k) (by omega) fun i' a b c => hn i' a c
    rw [upto_all (Nat.le_refl _), e0] at e
    rw [e]
    omega
  · refine .inr ⟨j, h, h3, h4, ?_⟩
    rw [upto_none h0 h5, e0]
    omega
end Vm

set_option Elab.async false
set_option linter.all false
set_option maxRecDepth 100000
set_option maxHeartbeats 4000000
namespace Vf
open PySem PySem.Spec PyProof.Rows L2 L2.Vx Vs
/-! ### calls by keyword alone; a text so many times -/
section
variable {X : Cx} {CX : CXT} {k : Nat} {f : Addr} {fd : FuncData} {ps ks : List Str} {sp : Sp} {E : XK} {x : Str} {p pos : Pos} {kws : List Keyword} {tk : TA} {g : List Value → List Value → List Value} {gV : List V → List V → List V}
def tCallK0 (sp : Sp) (gV : List V → List V → List V) (E : XK) (tk : TA) : TE := fun σ H Q => tk σ H fun zs H2 => sp (gV [] zs) H2 Q E
theorem pe_callK0 (F : FnOk X.prog X.w X.K X.mg X.base CX k f fd ps sp) (hr : Room k X.A) (hm : X.mg x = some (.ref f)) (hk : PySem.W.keepIn X.K (.ref f) = true) (hb : KBinds X.K fd ps ks g gV) (hx : Passes CX X E) (hkw : PK X kws tk)
    (hg : Gl X x := by rfl) (hall : (backToKw pos (keywordEach kws X.env)).all (·.1.isSome) = true := by rfl) (hks : (backToKw pos (keywordEach kws X.env)).filterMap (·.1) = ks := by rfl) (hdb : (x == ("__debug__" : Str)) = false := by decide)
    (hpl : ((backTo pos (starEach [] X.env)).any (·.1) || (backToKw pos (keywordEach kws X.env)).any (·.1.isNone)) = false := by rfl) : PE X (.Call (.Name x p) [] kws pos) (tCallK0 sp gV E tk) := by
  refine ⟨fun pins s σ H Q I h => ?_⟩
  refine wpAny_Call_Name_kw (ld_glob I hg hm ?_ hdb)
  refine PySem.W.callWith_KW0 (h₀ := X.base) I.ok.mod.kin hk hall (thn (hkw.run pos pins s σ H _ I h) fun ws s2 ⟨zs, H2, I2, rz, q2⟩ => ⟨I2.kIn, ?_⟩) hpl
  rw [hks]
  exact run_fnk F hr hb hx I2 .nil rz q2
theorem op_mul_str : OpR X (binaryOp .Mult) (fun x y H Q => ∃ a n, x = .str a ∧ y = .int n ∧ MulOk a n ∧ Q (.str (PySem.Txt.mul a n)) H) := by
  intro pins s σ H x y v u Q I rx ry h
  obtain ⟨a, n, rfl, rfl, ok, q⟩ := h
  obtain ⟨t, rfl⟩ := rx
  obtain ⟨t', rfl⟩ := ry
  exact SB.mul ok fun t' k => ⟨.str _, H, I.tok _, ⟨_, rfl⟩, q⟩
end
/-- by name, the last one first -/
def gRev {α : Type} : List α → List α → List α
  | [], ws => ws.reverse
  | _ :: _, _ => []
theorem vals_rev {vs : List V} {us : List Value} (r : Vals vs us) : Vals vs.reverse us.reverse := by
  induction r with
  | nil => exact .nil
  | cons h t ih =>
    rw [List.reverse_cons, List.reverse_cons]
    have app : ∀ {as : List V} {bs : List Value} {cs : List V} {ds : List Value}, Vals as bs → Vals cs ds → Vals (as ++ cs) (bs ++ ds) := by
      intro as bs cs ds a b
      induction a with
      | nil => exact b
      | cons h _ ih => exact .cons h ih
    exact app ih (.cons h .nil)
theorem gRev_vals {v1 v2 : List V} {u1 u2 : List Value} (r1 : Vals v1 u1) (r2 : Vals v2 u2) : Vals (gRev v1 v2) (gRev u1 u2) := by
  cases r1 with
  | nil => exact vals_rev r2
  | cons _ _ => exact .nil
end Vf

set_option Elab.async false
set_option linter.all false
set_option maxRecDepth 100000
set_option maxHeartbeats 4000000
namespace Vm
open PySem PySem.Spec PyProof.Rows L2 L2.Vx
/-! ### data that can be shown, and how long that is -/
structure Fit (b e : Nat) (D : PyData) : Prop where
  sh : D.showable = true
  len : D.shown.length ≤ b
  dep : D.depth ≤ e
theorem Fit.le {b e b' e' : Nat} {D : PyData} (h : Fit b e D) (h1 : b ≤ b') (h2 : e ≤ e') : Fit b' e' D := ⟨h.sh, Nat.le_trans h.len h1, Nat.le_trans h.dep h2⟩
theorem fit_str {z : Wd} {n : Nat} (h : ∀ c ∈ z, c < 1000) (hn : z.length ≤ n) : Fit (10 * n + 2) 0 (.str (mkS z)) := by
  refine ⟨rfl, ?_, by simp [PyData.depth]⟩
  show (PySem.reprText (mkS z)).length ≤ _
  have q := StrLaws.reprText_len (mkS z) fun c hc => by
    rw [mkS_cps] at hc
    exact Nat.lt_trans (h c hc) (by decide)
  rw [mkS_length] at q
  omega
theorem fit_int {n : Int} (h0 : 0 ≤ n) (h1 : n < 10 ^ 10) : Fit 10 0 (.int n) := by
  refine ⟨?_, ?_, by simp [PyData.depth]⟩
  · show decide (n.natAbs.log2 < 1920) = true
    refine decide_eq_true ?_
    have a : n.natAbs < 2 ^ 40 := Nat.lt_of_lt_of_le (show n.natAbs < 10 ^ 10 by omega) (by decide)
    by_cases c : n.natAbs = 0
    · rw [c]; decide
    · exact Nat.lt_trans ((Nat.log2_lt c).mpr a) (by decide)
  · exact toString_length_le h0 (by decide) h1
theorem fit_all {b e : Nat} : ∀ {ds : List PyData}, (∀ x ∈ ds, Fit b e x) → PyData.showableAll ds = true ∧ ((PyData.shownAll ds).map (·.length)).sum ≤ ds.length * b ∧ (PyData.shownAll ds).length = ds.length ∧ PyData.depthAll ds ≤ e
  | [], _ => ⟨rfl, by simp [PyData.shownAll], rfl, Nat.zero_le _⟩
  | x :: r, h => by
    obtain ⟨i1, i2, i3, i4⟩ := fit_all fun y hy => h y (List.mem_cons_of_mem _ hy)
    have hx := h x (List.mem_cons_self ..)
    have h2 := hx.len
    have h3 := hx.dep
    refine ⟨by simp only [PyData.showableAll, hx.sh, i1, Bool.and_self], ?_, ?_, ?_⟩
    · simp only [PyData.shownAll, List.map_cons, List.sum_cons, List.length_cons, Nat.add_mul, Nat.one_mul]
      omega
    · simp only [PyData.shownAll, List.length_cons, i3]
    · simp only [PyData.depthAll]
      exact Nat.max_le.mpr ⟨h3, i4⟩
theorem fit_tup {b e : Nat} {ds : List PyData} (h : ∀ x ∈ ds, Fit b e x) : Fit (ds.length * (b + 2) + 3) (e + 1) (.tuple ds) := by
  obtain ⟨i1, i2, i3, i4⟩ := fit_all h
  refine ⟨by simpa only [PyData.showable] using i1, ?_, by simp only [PyData.depth]; omega⟩
  simp only [PyData.shown]
  refine Nat.le_trans (tupleText_len_le _) ?_
  rw [i3, Nat.mul_add]
  omega
theorem fit_lst {b e : Nat} {ds : List PyData} (h : ∀ x ∈ ds, Fit b e x) : Fit (ds.length * (b + 2) + 3) (e + 1) (.list ds) := by
  obtain ⟨i1, i2, i3, i4⟩ := fit_all h
  refine ⟨by simpa only [PyData.showable] using i1, ?_, by simp only [PyData.depth]; omega⟩
  simp only [PyData.shown]
  refine Nat.le_trans (listText_len_le _) ?_
  rw [i3, Nat.mul_add]
  omega
/-- a tuple of pairs of words of at most n signs and numbers -/
theorem fit_pairs {f : Wd → Int} {l : List Wd} {n m : Nat} (h1 : ∀ p ∈ l, p.length ≤ n ∧ (∀ c ∈ p, c < 1000) ∧ 0 ≤ f p ∧ f p < 10 ^ 10) (hl : l.length ≤ m) (hn : n ≤ 100) : Fit (m * (2 * (10 * n + 14) + 5) + 3) 2 (pairsD f l) := by
  have one : ∀ x ∈ l.map (pairD f), Fit (2 * (10 * n + 14) + 3) 1 x := by
    intro x hx
    obtain ⟨p, hp, rfl⟩ := List.mem_map.mp hx
    obtain ⟨a1, a2, a3, a4⟩ := h1 p hp
    refine (fit_tup (b := 10 * n + 12) (e := 0) fun y hy => ?_).le (by simp) (Nat.le_refl _)
    rcases List.mem_cons.mp hy with rfl | hy
    · exact (fit_str a2 a1).le (by omega) (Nat.le_refl _)
    · rw [List.mem_singleton.mp hy]
      exact (fit_int a3 a4).le (by omega) (Nat.le_refl _)
  refine (fit_tup one).le ?_ (Nat.le_refl _)
  rw [List.length_map, show 2 * (10 * n + 14) + 3 + 2 = 2 * (10 * n + 14) + 5 by omega]
  have := Nat.mul_le_mul_right (2 * (10 * n + 14) + 5) hl
  omega
theorem Fit.shows {b e : Nat} {D : PyData} (h : Fit b e D) (h1 : b ≤ 1000000) (h2 : e ≤ 60) : Shows D := ⟨h.sh, Nat.le_trans h.len h1, Nat.le_trans h.dep h2⟩
end Vm
namespace Vf
open PySem PySem.Spec PyProof.Rows L2 L2.Vx
/-! ### a def that is called where repr is allowed, by one that is called so -/
section
variable {X : Cx} {k : Nat} {f : Addr} {fd : FuncData} {ps : List Str} {sp : Sp} {E : XK} {x : Str} {p pos : Pos} {ds : List Value} {dvs : List V} {t : TA} {e : Expr} {es : List Expr}
theorem run_fnG {pins : List (Addr × Obj)} {σ : L2.St} {H : Hp} {s : Shared} {Q : VK} {us : List Value} {vs : List V} (F : FnG X.prog X.w X.K X.mg X.base k f fd ps sp) (len : ∀ vs H Q E, sp vs H Q E → vs.length = ps.length) (hgd : X.A.guards = some []) (hr : Room k X.A)
    (hb : L2.Binds X.K fd ps ds) (hd : Vals dvs ds) (hx : Passes CX0 X E) (I : Inv X pins σ H s) (r : Vals vs us) (h : sp (vs ++ dvs) H Q E) : wpAny (model X.prog X.w) X.A (call (.ref f) us) (EP X pins σ Q) X.xe s := by
  have both : Vals (vs ++ dvs) (us ++ ds) := r.append hd
  have many : (us ++ ds).length = ps.length := by rw [← both.length]; exact len _ _ _ _ h
  refine wpAny_call (codeAny_mono (F.run X.A X.stack s H ⟨us, []⟩ (us ++ ds) (vs ++ dvs) Q E hr hgd I.env0 (hb s us I.kIn many) both h) fun res s' hq => ?_)
  match res, hq with
  | .error err, hq => exact hx pins σ H s err s' I hq
  | .ok (.ret u), hq => exact I.after hq
  | .ok .next, hq => exact False.elim hq
  | .ok .brk, hq => exact False.elim hq
  | .ok .cont, hq => exact False.elim hq
theorem pe_callG (F : FnG X.prog X.w X.K X.mg X.base k f fd ps sp) (len : ∀ vs H Q E, sp vs H Q E → vs.length = ps.length) (hgd : X.A.guards = some []) (hr : Room k X.A) (hg : Gl X x) (hm : X.mg x = some (.ref f)) (hk : PySem.W.keepIn X.K (.ref f) = true) (hb : L2.Binds X.K fd ps ds) (hd : Vals dvs ds) (hx : Passes CX0 X E)
    (ha : PA X (e :: es) t) (hdb : (x == ("__debug__" : Str)) = false := by decide) (he : starEach (e :: es) X.env = (false, eval e X.env) :: starEach es X.env := by rfl) (hpl : (backTo pos (starEach es X.env)).any (·.1) = false := by rfl) :
    PE X (.Call (.Name x p) (e :: es) [] pos) (tCall sp dvs E t) := by
  refine ⟨fun pins s σ H Q I h => wpAny_Call_Name_kw (ld_glob I hg hm ?_ hdb)⟩
  refine PySem.W.callWith_K (h₀ := X.base) I.ok.mod.kin hk (thn (ha.run pos pins s σ H _ I h) fun us s1 ⟨vs, H1, I1, r, q⟩ => ⟨I1.kIn, ?_⟩) he hpl
  exact run_fnG F len hgd hr hb hd hx I1 r q
end
end Vf

set_option linter.all false
namespace Vm
/-! ### tables of words and numbers -/
def tally (p : Wd) : List (Wd × Nat) → Nat
  | [] => 0
  | q :: r => (if q.1 = p then q.2 else 0) + tally p r
theorem tally_app (p : Wd) : ∀ (l m : List (Wd × Nat)), tally p (l ++ m) = tally p l + tally p m
  | [], m => by simp [tally]
  | q :: r, m => by
    show (if q.1 = p then q.2 else 0) + tally p (r ++ m) = _ + tally p r + tally p m
    rw [tally_app p r m]
    omega
theorem tally_zero {p : Wd} : ∀ {l : List (Wd × Nat)}, p ∉ l.map (·.1) → tally p l = 0
  | [], _ => rfl
  | q :: r, h => by
    rw [List.map_cons, List.mem_cons, not_or] at h
    show (if q.1 = p then q.2 else 0) + tally p r = 0
    rw [if_neg (fun e => h.1 e.symm), tally_zero h.2]
theorem tally_map {p : Wd} {f : Wd → Nat} : ∀ {l : List Wd}, l.Nodup → tally p (l.map fun q => (q, f q)) = if p ∈ l then f p else 0
  | [], _ => by simp [tally]
  | q :: r, h => by
    obtain ⟨h1, h2⟩ := List.nodup_cons.mp h
    show (if q = p then f q else 0) + tally p (r.map fun q => (q, f q)) = _
    rw [tally_map h2]
    by_cases e : q = p
    · subst e
      rw [if_pos rfl, if_neg h1, if_pos (List.mem_cons_self ..)]
      rfl
    · rw [if_neg e]
      have e' : ¬ p = q := fun z => e z.symm
      simp only [List.mem_cons, e', false_or, Nat.zero_add]
theorem asc_asc (l : List Wd) : asc (asc l) = asc l := asc_congr fun x => mem_asc
/-- the pieces with their numbers, as a table -/
def tab (k : Nat) (z : Wd) : List (Wd × Nat) := (asc (wins k z)).map fun p => (p, often k z p)
theorem tab_keys (k : Nat) (z : Wd) : (tab k z).map (·.1) = asc (wins k z) := by
  unfold tab
  rw [List.map_map]
  exact List.map_id _
theorem tally_tab (k : Nat) (z p : Wd) : tally p (tab k z) = often k z p := by
  unfold tab
  rw [tally_map (up_nodup (up_asc _))]
  split
  · rfl
  · rename_i h
    exact (List.count_eq_zero.mpr fun x => h (mem_asc.mpr x)).symm
theorem tab_length (k : Nat) (z : Wd) : (tab k z).length ≤ z.length + 1 - k := by
  unfold tab
  rw [List.length_map]
  exact Nat.le_trans (asc_length_le _) (Nat.le_of_eq (wins_length k z))
end Vm

set_option Elab.async false
set_option linter.all false
set_option maxRecDepth 100000
set_option maxHeartbeats 4000000
namespace Vf
open PySem PySem.Spec PyProof.Rows L2 L2.Vx Vs Vm
abbrev sSummed : Stmt := top 8
abbrev sEnded : Stmt := top 9
abbrev sView : Stmt := top 10
/-! ### data taken apart -/
theorem dt_tup {H : Hp} {S : Addr → Prop} {v : V} {ds : List PyData} (h : Dt H S v (.tuple ds)) : ∃ a xs, v = .ref a ∧ H a = some (.tup xs) ∧ S a ∧ DtAll H S xs ds := by
  cases h with
  | flat e => cases v <;> exact absurd e (by intro z; cases z)
  | tup e s r => exact ⟨_, _, rfl, e, s, r⟩
theorem dt_str {H : Hp} {S : Addr → Prop} {v : V} {x : Str} (h : Dt H S v (.str x)) : v = .str x := by
  cases h with
  | flat e =>
    cases v with
    | str y => cases (show PyData.str x = .str y from e); rfl
    | _ => exact absurd e (by intro z; cases z)
theorem dt_int {H : Hp} {S : Addr → Prop} {v : V} {n : Int} (h : Dt H S v (.int n)) : v = .int n := by
  cases h with
  | flat e =>
    cases v with
    | int y => cases (show PyData.int n = .int y from e); rfl
    | _ => exact absurd e (by intro z; cases z)
theorem dtA_len {H : Hp} {S : Addr → Prop} : ∀ {vs : List V} {ds : List PyData}, DtAll H S vs ds → vs.length = ds.length
  | _, _, .nil => rfl
  | _, _, .cons _ r => congrArg (· + 1) (dtA_len r)
theorem dtA_at {H : Hp} {S : Addr → Prop} : ∀ {vs : List V} {ds : List PyData}, DtAll H S vs ds → ∀ {i : Nat} {v : V}, vs[i]? = some v → ∃ d, ds[i]? = some d ∧ Dt H S v d
  | _, _, .cons h _, 0, _, e => ⟨_, rfl, (Option.some.inj e) ▸ h⟩
  | _, _, .cons _ r, _ + 1, _, e => dtA_at r (i := _) e
theorem dtA_one {H : Hp} {S : Addr → Prop} {vs : List V} {d : PyData} {ds : List PyData} (h : DtAll H S vs (d :: ds)) : ∃ v r, vs = v :: r ∧ Dt H S v d ∧ DtAll H S r ds := by
  cases h with
  | cons a b => exact ⟨_, _, rfl, a, b⟩
theorem dtA_nil {H : Hp} {S : Addr → Prop} {vs : List V} (h : DtAll H S vs []) : vs = [] := by
  cases h
  rfl
/-- a pair of a word and a number -/
theorem dt_pair {H : Hp} {S : Addr → Prop} {v : V} {p : Wd} {n : Int} (h : Dt H S v (.tuple [.str (mkS p), .int n])) : ∃ a, v = .ref a ∧ H a = some (.tup [.str (mkS p), .int n]) := by
  obtain ⟨a, xs, rfl, e, _, r⟩ := dt_tup h
  obtain ⟨v1, r1, rfl, h1, r⟩ := dtA_one r
  obtain ⟨v2, r2, rfl, h2, r⟩ := dtA_one r
  obtain rfl := dtA_nil r
  obtain rfl := dt_str h1
  obtain rfl := dt_int h2
  exact ⟨a, rfl, e⟩
/-- a table as data -/
abbrev prD (q : Wd × Nat) : PyData := .tuple [.str (mkS q.1), .int (q.2 : Nat)]
def tabD (L : List (Wd × Nat)) : PyData := .tuple (L.map prD)
theorem pairs_tab (k : Nat) (z : Wd) : piecesD k z = tabD (tab k z) := by
  unfold piecesD tabD tab pairsD
  rw [List.map_map]
  rfl
/-! ### tables put together -/
/-- the numbers of all tables together, no more than t -/
def sumD (t : Nat) (L : List (Wd × Nat)) : PyData := pairsD (fun p => ((min t (tally p L) : Nat) : Int)) (asc (L.map (·.1)))
def spSummed : Sp := fun vs H Q _ => ∃ (a : Addr) (t : Nat) (xs : List V) (Ls : List (List (Wd × Nat))) (S : Addr → Prop), vs = [.ref a, .int t] ∧ 1 ≤ t ∧ H a = some (.lst xs) ∧ DtAll H S xs (Ls.map tabD) ∧ Ls.flatten.length ≤ 4000 ∧
  ∀ v H', Same H H' → Dt H' (New H) v (sumD t Ls.flatten) → Q v H'
def spEnded : Sp := fun vs H Q _ => ∃ (k : Nat) (z : Wd), vs = [.int k, .str (mkS z)] ∧ 1 ≤ k ∧ k ≤ z.length + 1 ∧ z.length ≤ 4000 ∧ Q (.str (mkS (z.drop (z.length + 1 - k)))) H
/-- the view of a word -/
def viewD (k t : Nat) (z : Wd) : PyData := if z.length < k then .tuple [.str "short", .str (mkS z)] else .tuple [.str "long", .str (mkS (z.take (k - 1))), .str (mkS (z.drop (z.length + 1 - k))), sumD t (tab k z)]
def spView : Sp := fun vs H Q _ => ∃ (k t : Nat) (z : Wd), vs = [.int k, .int t, .str (mkS z)] ∧ 1 ≤ k ∧ k ≤ 1000 ∧ 1 ≤ t ∧ z.length ≤ 3000 ∧ ∀ v H', Same H H' → Dt H' (New H) v (viewD k t z) → Q v H'
theorem cut_tail {z : Wd} {n : Nat} (h : n ≤ z.length) : cutS (mkS z) (some (n : Int)) none = mkS (z.drop n) := by
  unfold cutS
  rw [mkS_length, mkS_cps]
  have e1 : HT.sIx z.length 0 (some (n : Int)) = min n z.length := HT.sIx_nat _ _ n
  have e2 : HT.sIx z.length z.length none = z.length := rfl
  rw [e1, e2, Nat.min_eq_left h]
  show mkS ((z.drop n).take (z.length - n)) = _
  congr 1
  exact List.take_of_length_le (by rw [List.length_drop]; exact Nat.le_refl _)
/-- what the dict of numbers holds behind the pairs L -/
def NumAt (t : Nat) (L : List (Wd × Nat)) (H : Hp) (d : Addr) : Prop := ∃ ks : List Wd, ks.Nodup ∧ (∀ p, p ∈ ks ↔ p ∈ L.map (·.1)) ∧ ks.length ≤ L.length ∧ H d = some (.dK (entK (fun p => .int (min t (tally p L) : Nat)) ks))
theorem NumAt.next {t : Nat} {L : List (Wd × Nat)} {q : Wd × Nat} {d : Addr} {f : Wd → V} {ks : List Wd} {H : Hp} (nd : ks.Nodup) (mem : ∀ p, p ∈ ks ↔ p ∈ L.map (·.1)) (hl : ks.length ≤ L.length) (hf : f = fun p => .int (min t (tally p L) : Nat)) {n : Int} (hn : n = (min t (tally q.1 (L ++ [q])) : Nat)) :
    NumAt t (L ++ [q]) (upd H d (.dK (putK (entK f ks) (kS q.1) (.int n)))) d := by
  refine ⟨more ks q.1, more_nodup nd _, fun p => ?_, by rw [List.length_append]; exact Nat.le_trans (more_length _ _) (Nat.succ_le_succ hl), ?_⟩
  · rw [mem_more, mem p, List.map_append, List.mem_append]
    simp
  · rw [upd_same, putK_ent]
    refine congrArg (fun x => some (HO.dK x)) (entK_congr fun p _ => ?_)
    unfold at'
    by_cases c : p = q.1
    · rw [if_pos c, hn, c]
    · rw [if_neg c, hf, tally_app]
      have e : tally p [q] = 0 := tally_zero (by simpa using c)
      rw [e, Nat.add_zero]
section
variable {P : Program} {w : World} {K : PySem.W.Frag} {mg : Str → Option Value} {base : Heap}
abbrev nSummed : List Str := ["tables", "top", "numbers", "pairs", "piece", "number", "total"]
theorem scSummed : FnScope nSummed ["tables", "top"] (defScope sSummed) := ⟨rfl, rfl, rfl, by decide +kernel, rfl, by decide +kernel, by decide +kernel⟩
theorem scEnded : FnScope ["width", "text"] ["width", "text"] (defScope sEnded) := ⟨rfl, rfl, rfl, by decide +kernel, rfl, by decide +kernel, by decide +kernel⟩
theorem scView : FnScope ["width", "top", "text"] ["width", "top", "text"] (defScope sView) := ⟨rfl, rfl, rfl, by decide +kernel, rfl, by decide +kernel, by decide +kernel⟩
theorem ok_ended {f : Addr} {fd : FuncData} (F : Fun K "ended_with" "ended_with" sEnded f fd) (T : TxtP mg) : FnOk P w K mg base CX0 1 f fd ["width", "text"] spEnded := by
  refine F.ok scEnded (fun vs H Q E h => ?_) (fun cdv A outer s H vs Q E hr h => ?_)
  · obtain ⟨k, z, rfl, _⟩ := h
    rfl
  obtain ⟨k, z, rfl, hk1, hk2, hz, q⟩ := h
  refine ⟨_, pss_one (ps_ret (pe_slice sl_str (pv 1) (po_some (pe_op op_add (pe_op op_sub (pe_callB call_len_str (by rfl) T.len PySem.boot_len (pa_cons (pv 1) pa_nil)) (pv 0)) pe_int)) po_none)), ?_⟩
  have hlz : (mkS z).length = z.length := mkS_length z
  have hz16 : (mkS z).length ≤ sizeLine := by rw [hlz, sizeLine_eq]; omega
  refine ⟨_, rfl, _, rfl, _, rfl, hz16, _, rfl, _, _, rfl, rfl, _, _, rfl, rfl, _, rfl, _, rfl, hz16, ?_⟩
  have e : (((mkS z).length : Nat) : Int) - k + 1 = ((z.length + 1 - k : Nat) : Int) := by rw [hlz]; omega
  rw [e, cut_tail (by omega)]
  exact q
theorem ok_summed {f fA : Addr} {fd fdA : FuncData} (F : Fun K "summed" "summed" sSummed f fd)
    (GA : FnOk P w K mg base CX0 1 fA fdA ["numbers"] (spPairs K)) (bA : Binds K fdA ["numbers"] []) (kA : PySem.W.keepIn K (.ref fA) = true) (mA : mg "in_pairs" = some (.ref fA)) :
    FnOk P w K mg base CX0 2 f fd ["tables", "top"] spSummed := by
  refine F.ok scSummed (fun vs H Q E h => ?_) (fun cdv A outer s H vs Q E hr h => ?_)
  · obtain ⟨a, t, xs, Ls, S, rfl, _⟩ := h
    rfl
  obtain ⟨a, t, xs, Ls, S, rfl, ht, ha, hxs, hl4, q⟩ := h
  have hu := hu_of hr
  refine ⟨_, pss_cons (ps_set (i := 2) scSummed.nd rfl (Or.inl rfl) pe_dnewK)
    (pss_cons (ps_for PassesOwn.never rfl (pi_list (pv 0)) (pg_name (i := 3) scSummed.nd rfl (Or.inl rfl))
      (pss_one (ps_for PassesOwn.never rfl (pi_tup (pv 3)) (pg_tup rfl (pgs_cons (pg_name (i := 4) scSummed.nd rfl (Or.inl rfl)) (pgs_cons (pg_name (i := 5) scSummed.nd rfl (Or.inl rfl)) pgs_nil)))
        (pss_cons (ps_set (i := 6) scSummed.nd rfl (Or.inl rfl) (pe_op op_add (pe_dget2 hu (pv 2) (pv 4) pe_int ⟨rfl, rfl, rfl, rfl⟩) (pv 5)))
        (pss_one (ps_dput hu (pv 2) (pv 4) (pe_ifExp (pt_cmpR op_lt (pv 6) (pv 1) (nomark _)) (pv 6) (pv 1)) rfl))))))
    (pss_one (ps_ret (pe_call GA hr rfl mA kA bA .nil pass0 (pa_cons (pv 2) pa_nil))))), ?_⟩
  intro d hd
  have hxl := dtA_len hxs
  rw [List.length_map] at hxl
  have s0 := same_new hd (.dK [])
  refine ⟨_, rfl, a, rfl, ⟨xs, SqL.of (s0 _ _ ha)⟩, for_list (K := K) (a := a) (xs := xs) (fun i σ H' => ∃ v3 v4 v5 v6, σ = [some (.ref a), some (.int t), some (.ref d), v3, v4, v5, v6] ∧ NumAt t (Ls.take i).flatten H' d ∧ Same H H')
    ⟨none, none, none, none, rfl, ⟨[], List.nodup_nil, (fun p => by simp), Nat.le_refl _, upd_same⟩, s0⟩ (fun i σ H' _ ⟨_, _, _, _, _, _, s⟩ => SqL.of (s _ _ ha)) ?_ ?_⟩
  · rintro i y σ H1 hi ⟨v3, v4, v5, v6, rfl, hN, s1⟩
    obtain ⟨D, hD, dy⟩ := dtA_at hxs hi
    rw [List.getElem?_map] at hD
    obtain ⟨L, hL, rfl⟩ := Option.map_eq_some_iff.mp hD
    obtain ⟨b, ys, rfl, hb, _, hys⟩ := dt_tup dy
    have hyl := dtA_len hys
    rw [List.length_map] at hyl
    have eT : (Ls.take (i + 1)).flatten = (Ls.take i).flatten ++ L := by
      rw [List.take_add_one, hL, List.flatten_append]
      simp
    have lenL : (Ls.take i).flatten.length + L.length ≤ 4000 := by
      have e2 : Ls.flatten = (Ls.take (i + 1)).flatten ++ (Ls.drop (i + 1)).flatten := by rw [← List.flatten_append, List.take_append_drop]
      rw [e2, eT, List.length_append, List.length_append] at hl4
      omega
    refine ⟨_, rfl, b, rfl, ⟨ys, SqT.of (s1 _ _ hb)⟩, for_tup (K := K) (a := b) (xs := ys) (fun j σ H' => ∃ v4 v5 v6, σ = [some (.ref a), some (.int t), some (.ref d), some (.ref b), v4, v5, v6] ∧ NumAt t ((Ls.take i).flatten ++ L.take j) H' d ∧ Same H H')
      ⟨v4, v5, v6, rfl, by rw [List.take_zero, List.append_nil]; exact hN, s1⟩ (fun j σ H' _ ⟨_, _, _, _, _, s⟩ => SqT.of (s _ _ hb)) ?_ ?_⟩
    · rintro j y σ H2 hj ⟨u4, u5, u6, rfl, ⟨ks, nd, mem, hl, hd2⟩, s2⟩
      obtain ⟨D, hD, dy⟩ := dtA_at hys hj
      rw [List.getElem?_map] at hD
      obtain ⟨qq, hq, rfl⟩ := Option.map_eq_some_iff.mp hD
      obtain ⟨p, n⟩ := qq
      obtain ⟨e, rfl, he⟩ := dt_pair dy
      have hjl : j < L.length := (List.getElem?_eq_some_iff.mp hq).1
      have lj : ((Ls.take i).flatten ++ L.take j).length ≤ 4000 := by
        rw [List.length_append, List.length_take]
        omega
      have eN : (Ls.take i).flatten ++ L.take (j + 1) = ((Ls.take i).flatten ++ L.take j) ++ [(p, n)] := by
        rw [List.take_add_one, hq, List.append_assoc]
        rfl
      rw [eN]
      generalize (Ls.take i).flatten ++ L.take j = M at mem hl hd2 lj ⊢
      refine ⟨e, _, rfl, SqT.of (s2 _ _ he), rfl, _, _, rfl, _, _, rfl, rfl, ?_⟩
      refine ⟨_, rfl, d, rfl, .inl ⟨_, .inl hd2⟩, _, rfl, _, DGet.k (k := kS p) hd2, ?_⟩
      have hg : (valV (entK (fun p => V.int (min t (tally p M) : Nat)) ks) (kS p)).getD (.int 0) = .int (min t (tally p M) : Nat) := getD_ent (f := fun p => V.int (min t (tally p M) : Nat)) fun c => by
        rw [tally_zero fun x => c ((mem _).mpr x), Nat.min_zero]
        rfl
      rw [hg]
      have hT : tally p (M ++ [(p, n)]) = tally p M + n := by
        rw [tally_app]
        show tally p M + ((if p = p then n else 0) + 0) = _
        rw [if_pos rfl]
        rfl
      refine ⟨_, rfl, _, _, rfl, rfl, _, rfl, _, rfl, _, _, rfl, rfl, _, rfl, ?_⟩
      have fin : ∀ m : Int, m = (min t (tally p (M ++ [(p, n)])) : Nat) → ∃ v4 v5 v6, [some (V.ref a), some (V.int t), some (V.ref d), some (V.ref b), some (V.str (mkS p)), some (V.int n), some (V.int ((min t (tally p M) : Nat) + n))] = [some (V.ref a), some (V.int t), some (V.ref d), some (V.ref b), v4, v5, v6] ∧
          NumAt t (M ++ [(p, n)]) (upd H2 d (.dK (putK (entK (fun p => V.int (min t (tally p M) : Nat)) ks) (kS p) (.int m)))) d ∧ Same H (upd H2 d (.dK (putK (entK (fun p => V.int (min t (tally p M) : Nat)) ks) (kS p) (.int m)))) := fun m hm => by
        refine ⟨_, _, _, rfl, NumAt.next (q := (p, n)) nd mem hl rfl hm, fun b' o e' => ?_⟩
        rw [upd_ne (ne_of_none e' hd)]
        exact s2 b' o e'
      refine ite2 (fun c => ?_) (fun c => ?_)
      · have c' := of_decide_eq_true c
        exact ⟨_, rfl, _, rfl, _, rfl, d, _, rfl, DPut.k (k := kS p) hd2 (by rw [entK_length, sizeLine_eq]; omega), fin _ (by rw [hT]; omega)⟩
      · have c' : ¬ _ := fun z => c (decide_eq_true z)
        exact ⟨_, rfl, _, rfl, _, rfl, d, _, rfl, DPut.k (k := kS p) hd2 (by rw [entK_length, sizeLine_eq]; omega), fin _ (by rw [hT]; omega)⟩
    · rintro σ H2 ⟨u4, u5, u6, rfl, hN2, s2⟩
      rw [hyl, List.take_length, ← eT] at hN2
      exact ⟨_, _, _, _, rfl, hN2, s2⟩
  · rintro σ H1 ⟨v3, v4, v5, v6, rfl, ⟨ks, nd, mem, hl, hd1⟩, s1⟩
    rw [hxl, List.take_length] at mem hl hd1
    refine ⟨_, rfl, d, _, ks, rfl, hd1, nd, by omega, fun v H2 s2 hv => ?_⟩
    refine q v H2 (s1.trans s2) ?_
    unfold sumD
    rw [← asc_congr mem]
    exact dt_new hv s1
end
end Vf

set_option Elab.async false
set_option linter.all false
set_option maxRecDepth 100000
set_option maxHeartbeats 4000000
namespace Vf
open PySem PySem.Spec PyProof.Rows L2 L2.Vx Vs Vm
/-! ### views, by their numbers -/
theorem sum_ext {t : Nat} {L L' : List (Wd × Nat)} (hk : ∀ p, p ∈ L.map (·.1) ↔ p ∈ L'.map (·.1)) (hv : ∀ p, min t (tally p L) = min t (tally p L')) : sumD t L = sumD t L' := by
  unfold sumD
  rw [asc_congr hk]
  refine congrArg (fun f => pairsD f _) (funext fun p => ?_)
  rw [hv p]
/-- the table of the cut numbers -/
def tabT (t : Nat) (L : List (Wd × Nat)) : List (Wd × Nat) := (asc (L.map (·.1))).map fun p => (p, min t (tally p L))
theorem sum_tab (t : Nat) (L : List (Wd × Nat)) : sumD t L = tabD (tabT t L) := by
  unfold sumD tabD tabT pairsD
  rw [List.map_map]
  rfl
theorem tabT_keys (t : Nat) (L : List (Wd × Nat)) : (tabT t L).map (·.1) = asc (L.map (·.1)) := by
  unfold tabT
  rw [List.map_map]
  exact List.map_id _
theorem tally_tabT (t : Nat) (L : List (Wd × Nat)) (p : Wd) : tally p (tabT t L) = min t (tally p L) := by
  unfold tabT
  rw [tally_map (up_nodup (up_asc _))]
  split
  · rfl
  · rename_i h
    rw [tally_zero fun x => h (mem_asc.mpr x), Nat.min_zero]
theorem tabT_length (t : Nat) (L : List (Wd × Nat)) : (tabT t L).length ≤ L.length := by
  unfold tabT
  rw [List.length_map]
  exact Nat.le_trans (asc_length_le _) (Nat.le_of_eq (List.length_map _))
theorem mkS_append (a b : Wd) : mkS a ++ mkS b = mkS (a ++ b) := by
  rw [← mkS_of (mkS a ++ mkS b)]
  congr 1
  show ((mkS a).cps ++ (mkS b).cps).toList = _
  rw [Array.toList_append, mkS_cps, mkS_cps]
theorem view_short {k t : Nat} {z : Wd} (h : z.length < k) : viewD k t z = .tuple [.str "short", .str (mkS z)] := if_pos h
theorem view_long {k t : Nat} {z : Wd} (h : ¬ z.length < k) : viewD k t z = .tuple [.str "long", .str (mkS (z.take (k - 1))), .str (mkS (z.drop (z.length + 1 - k))), sumD t (tab k z)] := if_neg h
theorem cnt_eq (k t : Nat) (z : Wd) : sumD t (tab k z) = pairsD (fun p => ((min t (often k z p) : Nat) : Int)) (asc (wins k z)) := by
  unfold sumD
  rw [tab_keys, asc_asc]
  exact congrArg (fun f => pairsD f _) (funext fun p => by rw [tally_tab])
theorem short_ne_long : decide (V.str "long" = V.str "short") = false := by decide +kernel
section
variable {P : Program} {w : World} {K : PySem.W.Frag} {mg : Str → Option Value} {base : Heap}
theorem ok_view {f fC fE fS : Addr} {fd fdC fdE fdS : FuncData} (F : Fun K "view_of" "view_of" sView f fd) (T : TxtP mg)
    (GC : FnOk P w K mg base CX0 2 fC fdC ["width", "text"] (spPieces K)) (bC : Binds K fdC ["width", "text"] []) (kC : PySem.W.keepIn K (.ref fC) = true) (mC : mg "pieces_of" = some (.ref fC))
    (GE : FnOk P w K mg base CX0 1 fE fdE ["width", "text"] spEnded) (bE : Binds K fdE ["width", "text"] []) (kE : PySem.W.keepIn K (.ref fE) = true) (mE : mg "ended_with" = some (.ref fE))
    (GS : FnOk P w K mg base CX0 2 fS fdS ["tables", "top"] spSummed) (bS : Binds K fdS ["tables", "top"] []) (kS' : PySem.W.keepIn K (.ref fS) = true) (mS : mg "summed" = some (.ref fS)) :
    FnOk P w K mg base CX0 3 f fd ["width", "top", "text"] spView := by
  refine F.ok scView (fun vs H Q E h => ?_) (fun cdv A outer s H vs Q E hr h => ?_)
  · obtain ⟨k, t, z, rfl, _⟩ := h
    rfl
  obtain ⟨k, t, z, rfl, hk1, hk2, ht, hz, q⟩ := h
  have hr1 : Room 1 _ := hr.mono (by decide)
  refine ⟨_, pss_cons (ps_if (pt_cmpR op_lt (pe_callB call_len_str (by rfl) T.len PySem.boot_len (pa_cons (pv 2) pa_nil)) (pv 0) (nomark _)) (pss_one (ps_ret (pe_tup (pa_cons pe_str (pa_cons (pv 2) pa_nil))))) pss_nil)
    (pss_one (ps_ret (pe_tup (pa_cons pe_str (pa_cons (pe_slice sl_str (pv 2) po_none (po_some (pe_op op_sub (pv 0) pe_int))) (pa_cons (pe_call GE hr1 rfl mE kE bE .nil pass0 (pa_cons (pv 0) (pa_cons (pv 2) pa_nil)))
      (pa_cons (pe_call GS hr rfl mS kS' bS .nil pass0 (pa_cons (pe_lst (pa_cons (pe_call GC hr rfl mC kC bC .nil pass0 (pa_cons (pv 0) (pa_cons (pv 2) pa_nil))) pa_nil)) (pa_cons (pv 1) pa_nil))) pa_nil))))))), ?_⟩
  have hlz : (mkS z).length = z.length := mkS_length z
  have hz16 : (mkS z).length ≤ sizeLine := by rw [hlz, sizeLine_eq]; omega
  refine ⟨_, rfl, _, rfl, hz16, _, rfl, _, _, rfl, rfl, _, rfl, ?_⟩
  refine ite2 (fun c => ?_) (fun c => ?_)
  · have c' : z.length < k := by have := of_decide_eq_true c; rw [hlz] at this; omega
    refine ⟨_, rfl, (by show 2 ≤ sizeLine; decide), fun u hu => q _ _ (same_new hu _) ?_⟩
    rw [view_short c']
    exact .tup upd_same hu (.cons (.flat (show FlatD (.str "short") (.str "short") from rfl)) (.cons (.flat (show FlatD (.str (mkS z)) (.str (mkS z)) from rfl)) .nil))
  · have c' : ¬ z.length < k := fun x => c (decide_eq_true (by rw [hlz]; omega))
    refine ⟨_, rfl, _, rfl, _, _, rfl, rfl, _, rfl, _, rfl, hz16, ?_⟩
    have e1 : (k : Int) - 1 = ((k - 1 : Nat) : Int) := by omega
    rw [e1, cut_head]
    refine ⟨_, rfl, _, rfl, k, z, rfl, hk1, by omega, by omega, ?_⟩
    refine ⟨_, rfl, _, rfl, k, z, rfl, hk1, by omega, by omega, fun v1 H1 s1 hv1 => ⟨(by show 1 ≤ sizeLine; decide), fun l hl => ?_⟩⟩
    have s2 := same_new hl (.lst [v1])
    have dv : DtAll (upd H1 l (.lst [v1])) (New H) [v1] ([tab k z].map tabD) := by
      rw [pairs_tab] at hv1
      exact .cons (dt_same hv1 s2) .nil
    have fl : [tab k z].flatten = tab k z := by simp
    have ll := tab_length k z
    refine ⟨_, rfl, l, t, [v1], [tab k z], New H, rfl, ht, upd_same, dv, by rw [fl]; omega, fun v2 H2 s3 hv2 => ⟨(by show 4 ≤ sizeLine; decide), fun u hu => ?_⟩⟩
    rw [fl] at hv2
    have s4 := (s1.trans s2).trans s3
    have s5 := same_new hu (.tup [.str "long", .str (mkS (z.take (k - 1))), .str (mkS (z.drop (z.length + 1 - k))), v2])
    refine q _ _ (s4.trans s5) ?_
    rw [view_long c']
    exact .tup upd_same (s4.free hu) (.cons (.flat (show FlatD (.str "long") (.str "long") from rfl)) (.cons (.flat (show FlatD (.str (mkS (z.take (k - 1)))) (.str (mkS (z.take (k - 1)))) from rfl)) (.cons (.flat (show FlatD (.str (mkS (z.drop (z.length + 1 - k)))) (.str (mkS (z.drop (z.length + 1 - k)))) from rfl))
      (.cons (dt_same (dt_new hv2 (s1.trans s2)) s5) .nil))))
end
end Vf

set_option Elab.async false
set_option linter.all false
set_option maxRecDepth 100000
set_option maxHeartbeats 4000000
namespace Vf
open PySem PySem.Spec PyProof.Rows L2 L2.Vx Vs Vm
abbrev sAcc : Stmt := top 16
/-! ### judges, and what they accept -/
def wordsD (L : List Wd) : PyData := .tuple (L.map fun z => .str (mkS z))
def judgeD (k : Nat) (S F L P : List Wd) : PyData := .tuple [.int k, wordsD S, wordsD F, wordsD L, wordsD P]
def acc (k : Nat) (S F L P : List Wd) (z : Wd) : Bool := if z.length < k then decide (z ∈ S) else decide (z.take (k - 1) ∈ F) && (decide (z.drop (z.length + 1 - k) ∈ L) && (wins k z).all fun p => decide (p ∈ P))
theorem dt_words {H : Hp} {S : Addr → Prop} {v : V} {L : List Wd} (h : Dt H S v (wordsD L)) : ∃ a, v = .ref a ∧ S a ∧ H a = some (.tup ((L.map mkS).map .str)) := by
  obtain ⟨a, xs, rfl, e, s, r⟩ := dt_tup h
  refine ⟨a, rfl, s, ?_⟩
  have : ∀ {L : List Wd} {xs : List V}, DtAll H S xs (L.map fun z => .str (mkS z)) → xs = (L.map mkS).map .str := by
    intro L
    induction L with
    | nil => intro xs h; exact dtA_nil h
    | cons z L ih =>
      intro xs h
      obtain ⟨v, r, rfl, h1, h2⟩ := dtA_one h
      rw [dt_str h1, ih h2]
      rfl
  rw [e, this r]
/-- the parts of a judge -/
theorem dt_judge {H : Hp} {Sx : Addr → Prop} {v : V} {k : Nat} {S F L P : List Wd} (h : Dt H Sx v (judgeD k S F L P)) : ∃ a s f l p, v = .ref a ∧ H a = some (.tup [.int k, .ref s, .ref f, .ref l, .ref p]) ∧ Sx a ∧
    H s = some (.tup ((S.map mkS).map .str)) ∧ H f = some (.tup ((F.map mkS).map .str)) ∧ H l = some (.tup ((L.map mkS).map .str)) ∧ H p = some (.tup ((P.map mkS).map .str)) := by
  obtain ⟨a, xs, rfl, e, s, r⟩ := dt_tup h
  obtain ⟨v1, r1, rfl, h1, r⟩ := dtA_one r
  obtain ⟨v2, r2, rfl, h2, r⟩ := dtA_one r
  obtain ⟨v3, r3, rfl, h3, r⟩ := dtA_one r
  obtain ⟨v4, r4, rfl, h4, r⟩ := dtA_one r
  obtain ⟨v5, r5, rfl, h5, r⟩ := dtA_one r
  obtain rfl := dtA_nil r
  obtain rfl := dt_int h1
  obtain ⟨s2, rfl, _, e2⟩ := dt_words h2
  obtain ⟨s3, rfl, _, e3⟩ := dt_words h3
  obtain ⟨s4, rfl, _, e4⟩ := dt_words h4
  obtain ⟨s5, rfl, _, e5⟩ := dt_words h5
  exact ⟨a, s2, s3, s4, s5, rfl, e, s, e2, e3, e4, e5⟩
theorem inV_word {z : Wd} {L : List Wd} : inV (.str (mkS z)) ((L.map mkS).map V.str) = decide (z ∈ L) := by
  unfold inV
  rw [Bool.eq_iff_iff, List.any_eq_true, decide_eq_true_iff]
  constructor
  · rintro ⟨x, hx, e⟩
    rw [List.map_map] at hx
    obtain ⟨y, hy, rfl⟩ := List.mem_map.mp hx
    have e2 : (mkS y == mkS z) = true := e
    rw [← mkS_inj (eq_of_beq e2)]
    exact hy
  · intro h
    refine ⟨.str (mkS z), ?_, ?_⟩
    · rw [List.map_map]
      exact List.mem_map_of_mem h
    · show (mkS z == mkS z) = true
      exact beq_self_eq_true _
theorem flat_words (L : List Wd) : ((L.map mkS).map V.str).all flatV = true := by
  rw [List.all_eq_true]
  intro x hx
  rw [List.map_map] at hx
  obtain ⟨y, hy, rfl⟩ := List.mem_map.mp hx
  rfl
theorem ixT_at {K : PySem.W.Frag} {X : Cx} (e : X.K = K) : IxR X (rIxT K) := e ▸ ix_tup
theorem inq_at {K : PySem.W.Frag} {X : Cx} (e : X.K = K) : OpR X (compareOp .In) (rIn K false) := e ▸ op_in_seq
theorem ninq_at {K : PySem.W.Frag} {X : Cx} (e : X.K = K) : OpR X (compareOp .NotIn) (rIn K true) := e ▸ op_notIn_seq
def spAcc : Sp := fun vs H Q _ => ∃ (v : V) (k : Nat) (S F L P : List Wd) (z : Wd) (Sx : Addr → Prop), vs = [v, .str (mkS z)] ∧ Dt H Sx v (judgeD k S F L P) ∧ 1 ≤ k ∧ k ≤ 1000 ∧ z.length ≤ 3000 ∧ P.length ≤ 4000 ∧ ∀ H', Same H H' → Q (.bl (acc k S F L P z)) H'
theorem sum_keys {k t : Nat} {z : Wd} : ∃ f : Wd → Int, sumD t (tab k z) = pairsD f (asc (wins k z)) := ⟨_, cnt_eq k t z⟩
section
variable {P : Program} {w : World} {K : PySem.W.Frag} {mg : Str → Option Value} {base : Heap}
abbrev nAcc : List Str := ["judge", "text", "width", "short", "firsts", "lasts", "pieces", "known", "_", "first", "last", "pairs", "piece", "pair"]
theorem scAcc : FnScope nAcc ["judge", "text"] (defScope sAcc) := ⟨rfl, rfl, rfl, by decide +kernel, rfl, by decide +kernel, by decide +kernel⟩
theorem ok_acc {f fV : Addr} {fd fdV : FuncData} (F : Fun K "accepts" "accepts" sAcc f fd) (hlen : mg "len" = none) (hall : mg "all" = none)
    (GV : FnOk P w K mg base CX0 3 fV fdV ["width", "top", "text"] spView) (bV : Binds K fdV ["width", "top", "text"] []) (kV : PySem.W.keepIn K (.ref fV) = true) (mV : mg "view_of" = some (.ref fV)) :
    FnOk P w K mg base CX0 4 f fd ["judge", "text"] spAcc := by
  refine F.ok scAcc (fun vs H Q E h => ?_) (fun cdv A outer s H vs Q E hr h => ?_)
  · obtain ⟨v, k, S, F, L, P, z, Sx, rfl, _⟩ := h
    rfl
  obtain ⟨v, k, S, Fi, L, Pc, z, Sx, rfl, hJ, hk1, hk2, hz, hP, q⟩ := h
  have hu := hu_of hr
  refine ⟨_, pss_cons (ps_asg (pv 0) (pg_tup rfl (pgs_cons (pg_name (i := 2) scAcc.nd rfl (Or.inl rfl)) (pgs_cons (pg_name (i := 3) scAcc.nd rfl (Or.inl rfl)) (pgs_cons (pg_name (i := 4) scAcc.nd rfl (Or.inl rfl)) (pgs_cons (pg_name (i := 5) scAcc.nd rfl (Or.inl rfl)) (pgs_cons (pg_name (i := 6) scAcc.nd rfl (Or.inl rfl)) pgs_nil)))))))
    (pss_cons (ps_if (pt_cmpR op_lt (pe_callB call_len_str (by rfl) hlen PySem.boot_len (pa_cons (pv 1) pa_nil)) (pv 2) (nomark _)) (pss_one (ps_ret (pe_cmpR op_in_seq (pv 1) (pv 3) (by rfl)))) pss_nil)
    (pss_cons (ps_set (i := 7) scAcc.nd rfl (Or.inr rfl) (pe_dc (own := [("piece", 12)]) (g := gName 12) (tt := tYes) rfl scAcc.nd (pi_tup (pv 6)) (blkOk_by (N := nAcc) (sc := defScope sAcc) (by decide +kernel)) (fun _ _ _ _ _ => pg_name (i := 12) scAcc.nd rfl (Or.inl rfl)) (fun _ _ _ _ _ => pts_nil)
        (fun _ _ _ _ _ => by exact pv 12) (fun _ _ _ _ _ => by exact pe_bl)))
    (pss_cons (ps_asg (pe_call GV hr rfl mV kV bV .nil pass0 (pa_cons (pv 2) (pa_cons pe_int (pa_cons (pv 1) pa_nil)))) (pg_tup rfl (pgs_cons (pg_name (i := 8) scAcc.nd rfl (Or.inl rfl)) (pgs_cons (pg_name (i := 9) scAcc.nd rfl (Or.inl rfl)) (pgs_cons (pg_name (i := 10) scAcc.nd rfl (Or.inl rfl)) (pgs_cons (pg_name (i := 11) scAcc.nd rfl (Or.inl rfl)) pgs_nil))))))
    (pss_one (ps_ret (pe_and (pe_cmpR op_in_seq (pv 9) (pv 4) (by rfl)) (pe_and (pe_cmpR op_in_seq (pv 10) (pv 5) (by rfl))
      (pe_one (pe_callB (cr_all rfl) (by rfl) hall (by decide +kernel) (pa_cons (pe_lc (own := [("pair", 13)]) (g := gName 13) (tt := tYes) rfl scAcc.nd (pi_tup (pv 11)) (blkOk_by (N := nAcc) (sc := defScope sAcc) (by decide +kernel)) (fun _ _ _ _ _ => pg_name (i := 13) scAcc.nd rfl (Or.inl rfl)) (fun _ _ _ _ _ => pts_nil)
        (fun _ _ _ _ _ => by exact pe_cmp (pc_din hu (pe_ix (ixT_at rfl) (pv 13) pe_int (fun _ _ => rfl)) (pv 7)))) pa_nil)))))))))), ?_⟩
  obtain ⟨a, a2, a3, a4, a5, rfl, e1, _, e2, e3, e4, e5⟩ := dt_judge hJ
  refine ⟨_, rfl, a, _, rfl, SqT.of e1, rfl, _, _, rfl, _, _, rfl, _, _, rfl, _, _, rfl, _, _, rfl, rfl, ?_⟩
  have hlz : (mkS z).length = z.length := mkS_length z
  have hz16 : (mkS z).length ≤ sizeLine := by rw [hlz, sizeLine_eq]; omega
  refine ⟨_, rfl, _, rfl, hz16, _, rfl, _, _, rfl, rfl, _, rfl, ?_⟩
  refine ite2 (fun c => ?_) (fun c => ?_)
  · have c' : z.length < k := by have := of_decide_eq_true c; rw [hlz] at this; omega
    refine ⟨_, rfl, _, rfl, a2, _, rfl, .inr (SqT.of e2), rfl, flat_words S, ?_⟩
    have e := q H (fun _ _ e => e)
    unfold acc at e
    rw [if_pos c', ← inV_word] at e
    exact e
  have c' : ¬ z.length < k := fun x => c (decide_eq_true (by rw [hlz]; omega))
  have eacc : acc k S Fi L Pc z = (decide (z.take (k - 1) ∈ Fi) && (decide (z.drop (z.length + 1 - k) ∈ L) && (wins k z).all fun p => decide (p ∈ Pc))) := by
    unfold acc
    rw [if_neg c']
  refine ⟨_, rfl, a5, rfl, ⟨_, SqT.of e5⟩, fun D hD => ?_⟩
  have s0 := same_new hD (.dK [])
  refine dc_tup (xs := (Pc.map mkS).map V.str) (fun i H' => ∃ ks : List Wd, (∀ x, x ∈ ks ↔ x ∈ Pc.take i) ∧ ks.length ≤ i ∧ H' D = some (.dK (entK (fun _ => .bl true) ks)) ∧ Same H H') ⟨[], (fun x => by simp), Nat.le_refl _, upd_same, s0⟩ (fun i H' _ ⟨_, _, _, _, s⟩ => SqT.of (s _ _ e5)) ?_ ?_
  · rintro i x H1 hi ⟨ks, m1, m2, m3, s1⟩
    obtain ⟨p, hp, rfl⟩ := str_at hi
    have hil : i < Pc.length := (List.getElem?_eq_some_iff.mp hp).1
    refine ⟨rfl, _, rfl, _, kS p, rfl, m3, by rw [entK_length, sizeLine_eq]; omega, more ks p, fun x => ?_, Nat.le_trans (more_length _ _) (Nat.succ_le_succ m2), ?_, fun b o e => ?_⟩
    · rw [mem_more, m1 x, List.take_add_one, hp, List.mem_append]
      simp
    · rw [upd_same, putK_ent]
      refine congrArg (fun x => some (HO.dK x)) (entK_congr fun p _ => ?_)
      unfold at'
      split <;> rfl
    · rw [upd_ne (ne_of_none e hD)]
      exact s1 b o e
  rintro H1 ⟨ks, m1, m2, m3, s1⟩
  rw [List.length_map, List.length_map, List.take_length] at m1
  refine ⟨_, rfl, _, rfl, k, 1, z, rfl, hk1, hk2, by decide, hz, fun vv H2 s2 hv => ?_⟩
  rw [view_long c', cnt_eq] at hv
  obtain ⟨b, ys, rfl, eb, _, r⟩ := dt_tup hv
  obtain ⟨v1, r1, rfl, h1, r⟩ := dtA_one r
  obtain ⟨v2, r2, rfl, h2, r⟩ := dtA_one r
  obtain ⟨v3, r3, rfl, h3, r⟩ := dtA_one r
  obtain ⟨v4, r4, rfl, h4, r⟩ := dtA_one r
  obtain rfl := dtA_nil r
  obtain rfl := dt_str h1
  obtain rfl := dt_str h2
  obtain rfl := dt_str h3
  obtain ⟨c4, us, rfl, e6, _, r⟩ := dt_tup h4
  refine ⟨b, _, rfl, SqT.of eb, rfl, _, _, rfl, _, _, rfl, _, _, rfl, _, _, rfl, rfl, ?_⟩
  have s12 := s1.trans s2
  refine ⟨_, rfl, _, rfl, a3, _, rfl, .inr (SqT.of (s12 _ _ e3)), rfl, flat_words Fi, _, rfl, ?_⟩
  refine ite2 (fun e => ?_) (fun e => ?_)
  rotate_left
  · have f1 : decide (z.take (k - 1) ∈ Fi) = false := by
      have e' : ¬ inV (V.str (mkS (z.take (k - 1)))) ((Fi.map mkS).map V.str) = true := e
      rw [inV_word] at e'
      exact Bool.eq_false_iff.mpr e'
    have g := q H2 s12
    rw [eacc, f1] at g
    exact g
  have f1 : decide (z.take (k - 1) ∈ Fi) = true := by
    have e' : inV (V.str (mkS (z.take (k - 1)))) ((Fi.map mkS).map V.str) = true := e
    rw [inV_word] at e'
    exact e'
  refine ⟨_, rfl, _, rfl, a4, _, rfl, .inr (SqT.of (s12 _ _ e4)), rfl, flat_words L, _, rfl, ?_⟩
  refine ite2 (fun e => ?_) (fun e => ?_)
  rotate_left
  · have f2 : decide (z.drop (z.length + 1 - k) ∈ L) = false := by
      have e' : ¬ inV (V.str (mkS (z.drop (z.length + 1 - k)))) ((L.map mkS).map V.str) = true := e
      rw [inV_word] at e'
      exact Bool.eq_false_iff.mpr e'
    have g := q H2 s12
    rw [eacc, f1, f2] at g
    exact g
  have f2 : decide (z.drop (z.length + 1 - k) ∈ L) = true := by
    have e' : inV (V.str (mkS (z.drop (z.length + 1 - k)))) ((L.map mkS).map V.str) = true := e
    rw [inV_word] at e'
    exact e'
  have m32 := s2 _ _ m3
  have ul := dtA_len r
  rw [List.length_map] at ul
  have la := asc_length_le (wins k z)
  rw [wins_length] at la
  refine ⟨_, rfl, c4, rfl, ⟨_, SqT.of e6⟩, fun D2 hD2 => ?_⟩
  refine lc_it (walk_tup (xs := us)) (fun i H' => H' D2 = some (.lst ((((asc (wins k z)).take i).map fun p => decide (p ∈ Pc)).map V.bl)) ∧ Same H2 H') ⟨upd_same, same_new hD2 _⟩ (fun i H' _ ⟨_, s⟩ => SqT.of (s _ _ e6)) ?_ ?_
  · rintro i x H3 H4 hi ⟨n1, n2⟩ ⟨rfl, hx⟩
    obtain ⟨dd, hdd, dx⟩ := dtA_at r hx
    rw [List.getElem?_map] at hdd
    obtain ⟨p, hp, rfl⟩ := Option.map_eq_some_iff.mp hdd
    obtain ⟨e0, rfl, he⟩ := dt_pair dx
    refine ⟨rfl, _, rfl, e0, _, _, .str (mkS p), rfl, rfl, SqT.of (n2 _ _ he), rfl, _, rfl, D, _, rfl, DGet.k (k := kS p) (n2 _ _ m32), ?_⟩
    have ev : (valV (entK (fun _ => V.bl true) ks) (kS p)).isSome = decide (p ∈ Pc) := by
      rw [valV_ent]
      by_cases hpk : p ∈ ks
      · rw [if_pos hpk, decide_eq_true ((m1 p).mp hpk)]
        rfl
      · rw [if_neg hpk, decide_eq_false fun h => hpk ((m1 p).mpr h)]
        rfl
    rw [ev]
    refine ⟨_, n1, ?_, ?_, fun b' o e' => ?_⟩
    · rw [List.length_map, List.length_map, List.length_take, sizeLine_eq]
      omega
    · rw [upd_same, List.take_add_one, hp, List.map_append, List.map_append]
      rfl
    · rw [upd_ne (ne_of_none e' hD2)]
      exact n2 b' o e'
  · rintro H3 ⟨n1, n2⟩
    rw [ul, List.take_length] at n1
    refine ⟨D2, _, rfl, SqL.of n1, ?_⟩
    have g := q H3 (s12.trans n2)
    rw [eacc, f1, f2] at g
    have ea : ((asc (wins k z)).map fun p => decide (p ∈ Pc)).all id = (wins k z).all fun p => decide (p ∈ Pc) := by
      rw [List.all_map, Bool.eq_iff_iff, List.all_eq_true, List.all_eq_true]
      exact ⟨fun h x hx => h x (mem_asc.mpr hx), fun h x hx => h x (mem_asc.mp hx)⟩
    rw [ea]
    exact g
end
end Vf

set_option Elab.async false
set_option linter.all false
set_option maxRecDepth 100000
set_option maxHeartbeats 4000000
namespace Vs
open PySem PySem.Spec PyProof.Rows L2 SrtO Vm
theorem strs_vals : ∀ {l : List Str} {its : List Value}, Vals (l.map V.str) its → StrsAre its l
  | [], its, h => by cases h; exact .nil
  | x :: l, its, h => by
    rw [List.map_cons] at h
    cases h with
    | cons r rr =>
      obtain ⟨t, rfl⟩ := r
      exact .cons _ _ (strs_vals rr)
section
variable {X : Cx}
/-- sorted(xs), texts, any number of them -/
theorem cr_sortedTL : CallR X (.builtin "sorted") (fun xs H Q => ∃ (a : Addr) (ks : List Wd), xs = [.ref a] ∧ SqL X.K H a ((ks.map mkS).map .str) ∧
    ∀ (ms : List Wd) p, ms.Perm ks → ms.Pairwise (fun x y => ¬ y < x) → H p = none → Q (.ref p) (upd H p (.lst ((ms.map mkS).map .str)))) := by
  intro pins s σ H vs us Q I r h
  obtain ⟨a, ks, rfl, hs, q⟩ := h
  obtain ⟨its, rv, hl, hz⟩ := I.list hs
  rw [Vals.ref1 r]
  have hi := strs_vals rv
  refine SrtO.sorted_ord SrtO.swo_text hl.isList (by rw [← rv.length]; exact hz) (fun h2 h₁ a' _ _ => SrtO.texts_sortable hi h2) fun out h1 h2 => ?_
  obtain ⟨k1, k2, k3⟩ := SrtO.texts_out hi h1 h2
  obtain ⟨ep, he'⟩ := PyProof.Rows.sortedAll_at s.heap its out.toArray
  have e : out.map strOf = ((out.map strOf).map fun y => y.cps.toList).map mkS := by
    rw [List.map_map, show (mkS ∘ fun y : Str => y.cps.toList) = id from funext fun y => mkS_of y, List.map_id]
  have pm : ((out.map strOf).map fun y => y.cps.toList).Perm ks := by
    have z := k2.map fun y : Str => y.cps.toList
    rw [List.map_map (l := ks)] at z
    have e2 : (fun y : Str => y.cps.toList) ∘ mkS = id := funext mkS_cps
    rw [e2, List.map_id] at z
    exact z
  have up : ((out.map strOf).map fun y => y.cps.toList).Pairwise (fun x y => ¬ y < x) := List.pairwise_map.mpr k3
  have hlen : ((out.map strOf).map V.str).length ≤ sizeLine := by
    rw [List.length_map, k2.length_eq]
    rw [List.length_map] at hz
    exact hz
  have fin := q _ (s.heap.objs.size + 1) pm up (I.hok.fresh (Nat.le_succ _))
  rw [← e] at fin
  exact ⟨.ref _, upd H (s.heap.objs.size + 1) (.lst ((out.map strOf).map V.str)), I.laid (t' := s.toks) (fun _ _ => PyProof.Rows.sortedAll_old) (Nat.le_succ _) ⟨hlen, out, ep, vals_of_strs k1, he'⟩, rfl, fin⟩
/-- z[::-1] -/
def tRevS (te : TE) : TE := fun σ H Q => te σ H fun x H1 => ∃ z : Wd, x = .str (mkS z) ∧ z.length ≤ sizeLine ∧ Q (.str (mkS z.reverse)) H1
theorem rev_idx (n : Nat) : Builtin.Str.strSliceIndices none none (-1) n = (List.range n).reverse := by
  have e : Builtin.Str.strSliceIndices none none (-1) n = sliceRange ((n : Int) - 1) (-1) (-1) := rfl
  rw [e, PySem.W.krv_sliceRange, PySem.W.krv_range]
theorem rev_text (z : Wd) : (⟨((Builtin.Str.strSliceIndices none none (-1) (mkS z).length).filterMap ((mkS z).cps[·]?)).toArray⟩ : Str) = mkS z.reverse := by
  rw [rev_idx, List.filterMap_reverse]
  have e := PySem.W.krv_all (mkS z).cps
  have e2 : (mkS z).length = (mkS z).cps.size := rfl
  rw [e2, e, mkS_cps]
  rfl
theorem pe_revS {e : Expr} {te : TE} {k : Nat} {p1 p2 p3 pos : Pos} (he : PE X e te) : PE X (.Subscript e (.Slice none none (some (.UnaryOp .USub (.Constant (.int 1) k p1) p2)) p3) pos) (tRevS te) := by
  refine ⟨fun pins s σ H Q I h => ?_⟩
  refine Subscript_ (thn (he.run pins s σ H _ I h) fun v s1 ⟨x, H1, I1, r1, q1⟩ => ?_)
  obtain ⟨z, ex, hx, q⟩ := q1
  subst ex
  obtain ⟨t, rfl⟩ := r1
  have hst : PO X (some (.UnaryOp .USub (.Constant (.int 1) k p1) p2)) (tPart (tUn (rU fun i => .int (-i)) (tC (.int 1)))) := po_some (pe_un un_neg pe_int)
  refine wpAny_Slice (thn (po_none.run pins s1 σ H1 (fun o H2 => o = none ∧ H2 = H1) I1 ⟨rfl, rfl⟩) fun vl s2 ⟨l, H2, I2, pl, el, e2⟩ => ?_)
  subst el e2
  refine thn (po_none.run pins s2 σ H2 (fun o H3 => o = none ∧ H3 = H2) I2 ⟨rfl, rfl⟩) fun vu s3 ⟨u, H3, I3, pu, eu, e3⟩ => ?_
  subst eu e3
  refine thn (hst.run pins s3 σ H3 (fun o H4 => o = some (-1) ∧ H4 = H3) I3 ⟨1, rfl, -1, rfl, rfl, rfl⟩) fun vs s4 ⟨o, H4, I4, ps, eo, e4⟩ => ?_
  subst eo e4
  have I5 : Inv X pins σ H4 { s4 with heap := s4.heap.push { cls := .type "slice", data := .fields #[vl, vu, vs] } } := I4.kept (t' := s4.toks) fun b ob q => Heap.get?_push_of_some _ q
  obtain ⟨l0, rfl, el0⟩ := IsPart.raw pl
  obtain ⟨u0, rfl, eu0⟩ := IsPart.raw pu
  obtain ⟨w0, rfl, ew0⟩ := IsPart.raw ps
  show wpAny (model X.prog X.w) X.A (subscriptTail e (.Slice none none (some (.UnaryOp .USub (.Constant (.int 1) k p1) p2)) p3) (.str (mkS z) t) (.ref s4.heap.objs.size)) (EP X pins σ Q) X.xe { s4 with heap := s4.heap.push { cls := .type "slice", data := .fields #[partValue l0, partValue u0, partValue w0] } }
  refine tail_any (ops := [.str (mkS z) t, .ref s4.heap.objs.size]) (typeIs_str _ _ _) (F.slot_str_getitem.lookup) ?_ (by with_unfolding_all rfl)
  obtain ⟨os, hos, hcs, hds⟩ := Heap.IsSliceOf.new s4.heap (partValue l0) (partValue u0) (partValue w0)
  refine wpAny_getItem_str_slice (l := l0) (u := u0) (st := w0) ⟨os, hos, hcs, hds⟩ (by rw [ew0]; rfl) ?_
  unfold sliceMade slicePicked
  rw [el0, eu0, ew0]
  rw [if_neg (by intro z; exact absurd z (by simp))]
  show Made.post (.str (⟨((Builtin.Str.strSliceIndices none none (-1) (mkS z).length).filterMap ((mkS z).cps[·]?)).toArray⟩ : Str)) (EP X pins σ Q) _
  rw [rev_text]
  refine ⟨by rw [mkS_length, List.length_reverse]; exact hx, .str _, H4, I5.tok _, ⟨_, rfl⟩, q⟩
end
end Vs

set_option Elab.async false
set_option linter.all false
set_option maxRecDepth 100000
set_option maxHeartbeats 4000000
namespace Vs
open PySem PySem.Spec PyProof.Rows L2 SrtO Vm
open PySem.Froz (SD sObj addTx tailTx sing TxOk)
section
variable {P : Program} {w : World} {A : Around} {E : Value → Shared → Prop} {s : Shared}
/-- the loop that puts the texts of a list in -/
theorem loop_txs {I : Addr} {fp wr : List Addr} {G : Array GenState → Array GenState → Prop} {n : Nat} {xs : List Str} {Pv : Nat → Value → Prop} {St : Nat → Shared → Prop} {R : Result → Shared → Prop}
    (W : WalksS P w A.in1 I fp wr G n Pv St) (S : Addr) (hSf : S ∉ fp) (hn : n = xs.length) (hb : n + 1 < scanBound) (hval : ∀ i v, Pv i v → ∃ k u, xs[i]? = some k ∧ v = .str k u) :
    ∀ (m i : Nat) (s : Shared), n - i = m → i ≤ n → St i s → (∃ D l, s.heap.get? S = some (sObj "set" D) ∧ Tx P w D l ∧ l.length ≤ i ∧ ∀ k, k ∈ l ↔ k ∈ xs.take i) →
      (∀ s' D l, Moved (S :: wr) G s s' → s'.heap.get? S = some (sObj "set" D) → Tx P w D l → l.length ≤ n → (∀ k, k ∈ l ↔ k ∈ xs) → R (.ok (.ret .none)) s') →
      codeAny (model P w) A (.builtin "set.update.loop" ⟨[.ref S, .ref I], []⟩) R s := by
  have hSw : S ∉ wr := fun h => hSf (W.sub _ h)
  have more : ∀ b ∈ wr, b ∈ S :: wr := fun b => List.mem_cons_of_mem _
  intro m
  induction m with
  | zero =>
    intro i s hm hi hst ⟨D, l, hS, F, hl, hmem⟩ hR
    obtain rfl : i = n := by omega
    refine codeAny_builtin PyProof.Rows.F.entry_set_update_loop ?_
    rw [Around.under_plainId PyProof.Rows.F.plain_set_update_loop _]
    refine wpAny_bind (W.done s _ _ hst fun s' mv => wpAny_pure (hR s' D l (mv.mono more) (mv.heap S _ hSw hS) F hl fun k => ?_))
    rw [hmem k, List.take_of_length_le (Nat.le_of_eq hn.symm)]
  | succ m ih =>
    intro i s hm hi hst ⟨D, l, hS, F, hl, hmem⟩ hR
    refine codeAny_builtin PyProof.Rows.F.entry_set_update_loop ?_
    rw [Around.under_plainId PyProof.Rows.F.plain_set_update_loop _]
    refine wpAny_bind (W.item i s _ _ (by omega) hst fun v s1 hP hst1 mv => ?_)
    obtain ⟨y, u, hp, rfl⟩ := hval i v hP
    have hS1 := mv.heap S _ hSw hS
    have hnx : ∀ k, k ∈ xs.take (i + 1) ↔ k ∈ l ∨ k = y := fun k => by
      rw [List.take_add_one, hp, List.mem_append, ← hmem k]
      simp
    refine wpAny_bind (wpAny_holding ?_)
    unfold setAdd
    refine wpAny_holding (wpAny_bind ((strKind P w).pyHash (k := y) (Froz.is_str _ _) ?_))
    by_cases hk : y ∈ l
    · refine add_old (s := { s1 with toks := s1.toks + 1 }) hS1 F.ok hk (by omega) ?_
      refine wpAny_pure ⟨plainId_quiet PyProof.Rows.F.plain_set_update_loop _, ih (i + 1) _ (by omega) (by omega) (W.frame _ s1 _ _ hst1 (Nat.le_succ _) fun b _ o e => e) ⟨D, l, hS1, F, by omega, fun k => ?_⟩ fun s2 D2 l2 mv2 hS2 F2 n2 h2 => ?_⟩
      · rw [hnx k]
        exact ⟨.inl, fun z => z.elim id fun z => z ▸ hk⟩
      · exact hR s2 D2 l2 (Moved.trans W.gtrans ((mv.mono more).then_heap (Nat.le_succ _) fun b o _ e => e) mv2) hS2 F2 n2 h2
    · refine Froz.add_x (s := { s1 with toks := s1.toks + 1 }) hS1 F.ok hk (by omega) ?_
      have hS2 : (s1.heap.update S (fun _ => sObj "set" (addTx (hashStr w y) (.str y u) D))).get? S = some (sObj "set" (addTx (hashStr w y) (.str y u) D)) := Froz.get_upd _ hS1 rfl
      have other : ∀ b o, b ≠ S → s1.heap.get? b = some o → (s1.heap.update S (fun _ => sObj "set" (addTx (hashStr w y) (.str y u) D))).get? b = some o := fun b o n e => (Heap.get?_update_other _ _ (Ne.symm n)).trans e
      refine wpAny_pure ⟨plainId_quiet PyProof.Rows.F.plain_set_update_loop _, ih (i + 1) _ (by omega) (by omega) (W.frame _ s1 _ _ hst1 (Nat.le_succ _) fun b hb' o e => other b o (fun z => hSf (z ▸ hb')) e) ⟨_, y :: l, hS2, F.add u hk, (by simp only [List.length_cons]; omega), fun k => ?_⟩ fun s2 D2 l2 mv2 hS3 F2 n2 h2 => ?_⟩
      · rw [hnx k, List.mem_cons]
        exact Or.comm
      · exact hR s2 D2 l2 (Moved.trans W.gtrans ((mv.mono more).then_heap (Nat.le_succ _) fun b o nb e => other b o (fun z => nb (z ▸ List.mem_cons_self ..)) e) mv2) hS3 F2 n2 h2
/-- set(list of texts) -/
theorem call_set_list {l : Addr} {items : Array Value} {xs : List Str} {Q : Value → Shared → Prop} (hh : A.handled = none) (hl : s.heap.IsList l items) (hx : StrsAre items.toList xs) (hb : xs.length + 1 < scanBound)
    (h : ∀ (s' : Shared) D m, (∀ b o, s.heap.get? b = some o → s'.heap.get? b = some o) → s'.gens = s.gens → s'.os = s.os → s'.heap.get? s.heap.objs.size = some (sObj "set" D) → Tx P w D m → m.length ≤ xs.length → (∀ k, k ∈ m ↔ k ∈ xs) → Q (.ref s.heap.objs.size) s') :
    wpAny (model P w) A (call (.type "set") [.ref l]) Q E s := by
  refine set_by_init fun R hR => ?_
  have hlen : items.size = xs.length := by
    have q := StrsAre.length hx
    rw [Array.length_toList] at q
    exact q
  have hS : (s.heap.push (sObj "set" (emptyD w))).get? s.heap.objs.size = some (sObj "set" (emptyD w)) := Heap.get?_push_size _ rfl
  have hold : ∀ b o, s.heap.get? b = some o → (s.heap.push (sObj "set" (emptyD w))).get? b = some o := fun b o e => Heap.get?_push_of_some _ e
  have hl1 : (s.heap.push (sObj "set" (emptyD w))).IsList l items := hl.push _
  have hls : l ≠ s.heap.objs.size := by
    obtain ⟨_, e, _⟩ := hl
    exact Nat.ne_of_lt (Heap.lt_size e)
  have t1 := F.sub_list_set
  have t2 := F.sub_list_frozenset
  have t3 : (Value.type "list" == Value.type "dict") = false := by decide
  have hty : Shared.TypeIs { s with heap := s.heap.push (sObj "set" (emptyD w)) } (.ref l) "list" := hl1.typeIs (s := { s with heap := s.heap.push (sObj "set" (emptyD w)) })
  generalize s.heap.push (sObj "set" (emptyD w)) = h1 at hS hold hl1 hty ⊢
  unfold Builtin.«set.__init__» noKeywords Builtin.Frozenset.updateFrom
  generalize hPI : pyIter = PI
  wp_walk
  subst hPI
  refine iter_any hl1 fun s2 e2 st hne => wpAny_bind (wpAny_runValue ?_)
  subst e2
  have hx1 : ∀ b u', h1.get? b = some u' → b ≠ h1.objs.size := fun b u' e => Nat.ne_of_lt (Heap.lt_size e)
  have hSf : s.heap.objs.size ∉ [h1.objs.size, l] := fun z => by
    rcases List.mem_cons.mp z with z | z
    · exact hx1 _ _ hS z
    · exact hls (List.mem_singleton.mp z).symm
  have hval : ∀ (i : Nat) (v : Value), items[i]? = some v → ∃ k u, xs[i]? = some k ∧ v = .str k u := fun i v hv => by
    have hi : i < xs.length := by rw [← hlen]; exact (Array.getElem?_eq_some_iff.mp hv).1
    obtain ⟨t, e⟩ := SS.strs_at hx i v (by rw [Array.getElem?_toList]; exact hv)
    refine ⟨xs[i], t, List.getElem?_eq_getElem hi, ?_⟩
    rw [e, List.getD_eq_getElem?_getD, List.getElem?_eq_getElem hi] <;> rfl
  refine loop_txs ((Walks.list (by simp [hh]) _ l hne items).toS) s.heap.objs.size hSf hlen (by rw [hlen]; exact hb) hval _ 0 _ rfl (Nat.zero_le _) st ⟨_, [], Heap.get?_push_of_some _ hS, tx_empty, Nat.le_refl _, fun k => by simp⟩ fun s2 D m mv hS2 F hm1 hm => ?_
  refine wpAny_pure (wpAny_pure (hR _ (h s2 D m (fun b o' e => ?_) mv.gens mv.os hS2 F (by rw [← hlen]; exact hm1) hm)))
  refine mv.heap b o' (fun z => ?_) (Heap.get?_push_of_some _ (hold b o' e))
  rcases List.mem_cons.mp z with z | z
  · rw [z] at e
    exact Nat.lt_irrefl _ (Heap.lt_size e)
  · exact hx1 _ _ (hold b o' e) (List.mem_singleton.mp z)
end
section
variable {X : Cx}
/-- set(xs), texts, then sorted -/
theorem cr_setListAt {P : Program} {w : World} (hc : X.calm = true) (eP : X.prog = P) (ew : X.w = w) : CallR X (.type "set") (fun xs H Q => ∃ (a : Addr) (ks : List Wd), xs = [.ref a] ∧ SqL X.K H a ((ks.map mkS).map .str) ∧ ks.length ≤ 4000 ∧
    ∀ p l (ms : List Wd), H p = none → l.Perm (ms.map mkS) → ms.Nodup → ms.length ≤ 4000 → (∀ k, k ∈ ms ↔ k ∈ ks) → Q (.ref p) (upd H p (SetTxO P w p l))) := by
  subst eP
  subst ew
  intro pins s σ H vs us Q I r h
  obtain ⟨a, ks, rfl, hs, hl, q⟩ := h
  obtain ⟨its, rv, hl0, hz⟩ := I.list hs
  rw [Vals.ref1 r]
  have hx := strs_vals rv
  refine call_set_list (I.ok.hd hc) hl0.isList (by simpa using hx) (by rw [List.length_map]; exact Nat.lt_of_le_of_lt (Nat.succ_le_succ hl) (by decide)) fun s' D l k g o hS F hn hm => ?_
  have em : ((l.map (fun y : Str => y.cps.toList)).map mkS) = l := by
    rw [List.map_map, show (mkS ∘ fun y : Str => y.cps.toList) = id from funext fun y => mkS_of y, List.map_id]
  refine laid_new I k g o (Nat.le_refl _) (setTxO_new ⟨D, hS, F⟩) fun hn' => q _ l (l.map fun y : Str => y.cps.toList) hn' (by rw [em]) ?_ ?_ fun x => ?_
  · refine List.Pairwise.map _ (fun a b n e => n ?_) F.nd
    rw [← mkS_of a, ← mkS_of b, e]
  · rw [List.length_map]
    rw [List.length_map] at hn
    omega
  · constructor
    · intro h
      obtain ⟨y, hy, rfl⟩ := List.mem_map.mp h
      obtain ⟨z, hz, e⟩ := List.mem_map.mp ((hm y).mp hy)
      rw [← e, mkS_cps]
      exact hz
    · intro h
      have h2 := (hm (mkS x)).mpr (List.mem_map_of_mem h)
      have h3 := List.mem_map_of_mem (f := fun y : Str => y.cps.toList) h2
      rw [mkS_cps] at h3
      exact h3
end
end Vs

set_option Elab.async false
set_option linter.all false
set_option maxRecDepth 100000
set_option maxHeartbeats 4000000
namespace Vd
open PySem PySem.Spec PyProof.Rows L2 L2.Vx Vm
/-! ### values as data: taken apart, asked for their kind -/
theorem dt_same {H H' : Hp} {S : Addr → Prop} {v : V} {D : PyData} (h : Dt H S v D) (s : Same H H') : Dt H' S v D := h.mono (fun a o _ e => s a o e) fun _ _ x _ => x
theorem dtA_same {H H' : Hp} {S : Addr → Prop} {vs : List V} {ds : List PyData} (h : DtAll H S vs ds) (s : Same H H') : DtAll H' S vs ds := h.mono (fun a o _ e => s a o e) fun _ _ x _ => x
theorem dt_any {H : Hp} {S : Addr → Prop} {v : V} {D : PyData} (h : Dt H S v D) : Dt H (fun _ => True) v D := h.mono (fun _ _ _ e => e) fun _ _ _ _ => trivial
theorem dt_tup {H : Hp} {S : Addr → Prop} {v : V} {ds : List PyData} (h : Dt H S v (.tuple ds)) : ∃ a xs, v = .ref a ∧ H a = some (.tup xs) ∧ S a ∧ DtAll H S xs ds := by
  cases h with
  | flat e => cases v <;> exact absurd e (by intro z; cases z)
  | tup e s r => exact ⟨_, _, rfl, e, s, r⟩
theorem dt_str {H : Hp} {S : Addr → Prop} {v : V} {x : Str} (h : Dt H S v (.str x)) : v = .str x := by
  cases h with
  | flat e =>
    cases v with
    | str y => cases (show PyData.str x = .str y from e); rfl
    | _ => exact absurd e (by intro z; cases z)
theorem dt_int {H : Hp} {S : Addr → Prop} {v : V} {n : Int} (h : Dt H S v (.int n)) : v = .int n := by
  cases h with
  | flat e =>
    cases v with
    | int y => cases (show PyData.int n = .int y from e); rfl
    | _ => exact absurd e (by intro z; cases z)
theorem dtA_len {H : Hp} {S : Addr → Prop} : ∀ {vs : List V} {ds : List PyData}, DtAll H S vs ds → vs.length = ds.length
  | _, _, .nil => rfl
  | _, _, .cons _ r => congrArg (· + 1) (dtA_len r)
theorem dtA_at {H : Hp} {S : Addr → Prop} : ∀ {vs : List V} {ds : List PyData}, DtAll H S vs ds → ∀ {i : Nat} {v : V}, vs[i]? = some v → ∃ d, ds[i]? = some d ∧ Dt H S v d
  | _, _, .cons h _, 0, _, e => ⟨_, rfl, (Option.some.inj e) ▸ h⟩
  | _, _, .cons _ r, _ + 1, _, e => dtA_at r (i := _) e
theorem dtA_one {H : Hp} {S : Addr → Prop} {vs : List V} {d : PyData} {ds : List PyData} (h : DtAll H S vs (d :: ds)) : ∃ v r, vs = v :: r ∧ Dt H S v d ∧ DtAll H S r ds := by
  cases h with
  | cons a b => exact ⟨_, _, rfl, a, b⟩
theorem dtA_nil {H : Hp} {S : Addr → Prop} {vs : List V} (h : DtAll H S vs []) : vs = [] := by
  cases h
  rfl
/-- all of them texts -/
def strD : PyData → Bool
  | .str _ => true
  | _ => false
def wdOf : PyData → Wd
  | .str x => x.cps.toList
  | _ => []
theorem dtA_strs {H : Hp} {S : Addr → Prop} : ∀ {vs : List V} {ds : List PyData}, DtAll H S vs ds → ds.all strD = true → vs = ((ds.map wdOf).map mkS).map .str
  | _, _, .nil, _ => rfl
  | _, _, .cons (d := d) h r, e => by
    rw [List.all_cons, Bool.and_eq_true] at e
    rw [dtA_strs r e.2]
    cases d with
    | str x =>
      rw [dt_str h]
      show V.str x :: _ = V.str (mkS x.cps.toList) :: _
      rw [mkS_of]
    | _ => exact absurd e.1 (by intro z; cases z)
def tyD : PyData → String
  | .none => "NoneType"
  | .bool _ => "bool"
  | .int _ => "int"
  | .str _ => "str"
  | .list _ => "list"
  | .tuple _ => "tuple"
  | .dict _ => "dict"
theorem dt_ty {K : PySem.W.Frag} {H : Hp} {S : Addr → Prop} {v : V} {D : PyData} (h : Dt H S v D) : TyX K H v (.type (tyD D)) := by
  cases h with
  | flat e =>
    cases v with
    | non => cases (show D = .none from e); exact .base .non
    | bl b => cases (show D = .bool b from e); exact .base (.bl b)
    | int i => cases (show D = .int i from e); exact .base (.int i)
    | str x => cases (show D = .str x from e); exact .base (.str x)
    | byt b => exact (show False from e).elim
    | flt b => exact (show False from e).elim
    | ref b => exact (show False from e).elim
    | ty b => exact (show False from e).elim
  | lst e _ _ => exact .base (.lst e)
  | tup e _ _ => exact .base (.tup e)
  | dct e _ _ => exact .base (.dK e)
/-- isinstance of such a value, one of four types -/
def isD (n : String) (D : PyData) : Bool := (n == "int" && tyD D == "bool") || tyD D == n
theorem kitTab : ∀ a ∈ ["NoneType", "bool", "int", "str", "list", "tuple", "dict"], ∀ n ∈ ["int", "bool", "str", "tuple"], kitB a n = some ((n == "int" && a == "bool") || a == n) := by decide +kernel
theorem tyD_mem (D : PyData) : tyD D ∈ ["NoneType", "bool", "int", "str", "list", "tuple", "dict"] := by
  cases D <;> simp [tyD]
theorem kit_D {K : PySem.W.Frag} (D : PyData) {n : String} (hn : n = "int" ∨ n = "bool" ∨ n = "str" ∨ n = "tuple") : PySem.W.kitOne K (.type (tyD D)) (.type n) = some (isD n D) :=
  kit_ty (kitTab _ (tyD_mem D) n (by rcases hn with rfl | rfl | rfl | rfl <;> simp))
theorem isD_str (D : PyData) : isD "str" D = strD D := by
  cases D with
  | str x => exact (by decide +kernel : (("str" == "int" && "str" == "bool") || "str" == "str") = true)
  | none => exact (by decide +kernel : (("str" == "int" && "NoneType" == "bool") || "NoneType" == "str") = false)
  | bool b => exact (by decide +kernel : (("str" == "int" && "bool" == "bool") || "bool" == "str") = false)
  | int b => exact (by decide +kernel : (("str" == "int" && "int" == "bool") || "int" == "str") = false)
  | list b => exact (by decide +kernel : (("str" == "int" && "list" == "bool") || "list" == "str") = false)
  | tuple b => exact (by decide +kernel : (("str" == "int" && "tuple" == "bool") || "tuple" == "str") = false)
  | dict b => exact (by decide +kernel : (("str" == "int" && "dict" == "bool") || "dict" == "str") = false)
theorem isD_tup (D : PyData) : isD "tuple" D = true ↔ ∃ ds, D = .tuple ds := by
  cases D with
  | tuple ds => exact ⟨fun _ => ⟨ds, rfl⟩, fun _ => by show (("tuple" == "int" && "tuple" == "bool") || "tuple" == "tuple") = true; decide +kernel⟩
  | none => exact ⟨fun z => absurd z (by show ¬ (("tuple" == "int" && "NoneType" == "bool") || "NoneType" == "tuple") = true; decide +kernel), fun ⟨_, e⟩ => by cases e⟩
  | bool b => exact ⟨fun z => absurd z (by show ¬ (("tuple" == "int" && "bool" == "bool") || "bool" == "tuple") = true; decide +kernel), fun ⟨_, e⟩ => by cases e⟩
  | int b => exact ⟨fun z => absurd z (by show ¬ (("tuple" == "int" && "int" == "bool") || "int" == "tuple") = true; decide +kernel), fun ⟨_, e⟩ => by cases e⟩
  | str b => exact ⟨fun z => absurd z (by show ¬ (("tuple" == "int" && "str" == "bool") || "str" == "tuple") = true; decide +kernel), fun ⟨_, e⟩ => by cases e⟩
  | list b => exact ⟨fun z => absurd z (by show ¬ (("tuple" == "int" && "list" == "bool") || "list" == "tuple") = true; decide +kernel), fun ⟨_, e⟩ => by cases e⟩
  | dict b => exact ⟨fun z => absurd z (by show ¬ (("tuple" == "int" && "dict" == "bool") || "dict" == "tuple") = true; decide +kernel), fun ⟨_, e⟩ => by cases e⟩
def isInt : PyData → Bool
  | .int _ => true
  | _ => false
/-! ### judges, as data -/
def textD (sg : Wd) : PyData → Bool
  | .str x => x.cps.toList.all fun c => decide (c ∈ sg)
  | _ => false
def wordDB (sg : Wd) (n : Int) (d : PyData) : Bool := textD sg d && decide (((wdOf d).length : Int) = n)
/-- each less than the next -/
def riseB {α : Type} (lt : α → α → Bool) (xs : List α) : Bool := (xs.zip (xs.drop 1)).all fun p => lt p.1 p.2
def ltW (x y : Wd) : Bool := decide (x < y)
def wordsB (sg : Wd) (n : Int) : PyData → Bool
  | .tuple ds => ds.all (wordDB sg n) && riseB ltW (ds.map wdOf)
  | _ => false
def ltP (x y : Wd) : Bool := decide (x.length < y.length) || (decide (x.length = y.length) && decide (x < y))
def shorterB (sg : Wd) (k : Int) : PyData → Bool
  | .tuple ds => ds.all (textD sg) && (ds.all (fun d => decide (((wdOf d).length : Int) < k)) && riseB ltP (ds.map wdOf))
  | _ => false
def judgeB (sg : Wd) : PyData → Bool
  | .tuple [.int k, s, f, l, p] => decide (1 ≤ k) && (shorterB sg k s && (wordsB sg (k - 1) f && (wordsB sg (k - 1) l && wordsB sg k p)))
  | _ => false
theorem text_str {sg : Wd} {d : PyData} (h : textD sg d = true) : strD d = true := by
  cases d with
  | str x => rfl
  | _ => exact absurd h (by intro z; cases z)
mutual
def wideD (n : Nat) : PyData → Prop
  | .tuple ds => ds.length ≤ n ∧ wideDs n ds
  | .list ds => ds.length ≤ n ∧ wideDs n ds
  | .str x => x.length ≤ n
  | _ => True
def wideDs (n : Nat) : List PyData → Prop
  | [] => True
  | d :: r => wideD n d ∧ wideDs n r
end
theorem wide_mem {n : Nat} : ∀ {ds : List PyData}, wideDs n ds → ∀ d ∈ ds, wideD n d
  | d :: r, h, e, he => by
    rcases List.mem_cons.mp he with rfl | he
    · exact h.1
    · exact wide_mem h.2 e he
end Vd

set_option Elab.async false
set_option linter.all false
set_option maxRecDepth 100000
set_option maxHeartbeats 4000000
namespace Vd
open PySem PySem.Spec PyProof.Rows L2 L2.Vx Vm
/-! ### x < y of values that are alike -/
def rLtDat (K : PySem.W.Frag) : R2 := fun x y H Q => ∃ d e, Dp K H x d ∧ Dp K H y e ∧ W.alike d e = true ∧ d ≠ .none ∧ d.depth ≤ 60 ∧ Q (.bl (W.dataLt d e)) H
section
variable {X : Cx}
theorem op_ltDat (hu : X.A.units + 64 < cLine) : OpR X (compareOp .Lt) (rLtDat X.K) := by
  intro pins s σ H x y v u Q I rx ry h
  obtain ⟨d, e, hd, he, ha, hn, hdp, q⟩ := h
  obtain ⟨as, r1⟩ := Dp.reads I d x v hd rx
  obtain ⟨bs, r2⟩ := Dp.reads I e y u he ry
  have hk : X.A.units + min d.depth e.depth < cLine := by
    have := Nat.min_le_left d.depth e.depth
    omega
  show wpAny (model X.prog X.w) X.A (richCompare .Lt v u) (EP X pins σ Q) X.xe s
  exact W.rcLt_alike d e X.A s v u as bs r1 r2 ha hn hk X.prog X.w _ _ ⟨.bl _, H, I, rfl, q⟩
theorem ltDat_at {K : PySem.W.Frag} (e : X.K = K) (hu : X.A.units + 64 < cLine) : OpR X (compareOp .Lt) (rLtDat K) := e ▸ op_ltDat hu
end
def pairP (z : Wd) : PyData := .tuple [.int (z.length : Nat), .str (mkS z)]
theorem alike_pair (x y : Wd) : W.alike (pairP x) (pairP y) = true := by
  unfold pairP
  simp [W.alike, W.alikeAll]
theorem lt_pair (x y : Wd) : W.dataLt (pairP x) (pairP y) = ltP x y := by
  unfold pairP ltP
  rw [W.dataLt_tuple]
  have a1 : W.alike (.int (x.length : Nat)) (.int (y.length : Nat)) = true := by simp [W.alike]
  have a2 : W.alike (.str (mkS x)) (.str (mkS y)) = true := by simp [W.alike]
  by_cases c : x.length = y.length
  · rw [W.dataLt_all_yes a1 (by rw [c]; simp [PyData.eqv])]
    rw [decide_eq_true c, Bool.true_and, decide_eq_false (by omega : ¬ x.length < y.length), Bool.false_or]
    by_cases e : x = y
    · subst e
      rw [W.dataLt_all_yes a2 (by simp [PyData.eqv]), decide_eq_false (lt_irr x)]
      rfl
    · rw [W.dataLt_all_no a2 (by
        simp only [PyData.eqv]
        exact beq_eq_false_iff_ne.mpr fun z => e (mkS_inj z)), W.dataLt_str, mkS_cps, mkS_cps]
  · rw [W.dataLt_all_no a1 (by
      simp only [PyData.eqv]
      exact beq_eq_false_iff_ne.mpr fun z => c (Int.ofNat.inj z)), W.dataLt_int, decide_eq_false c, Bool.false_and, Bool.or_false]
    rw [Bool.eq_iff_iff, decide_eq_true_iff, decide_eq_true_iff]
    exact Int.ofNat_lt
end Vd

set_option linter.all false
namespace Vm
/-! ### the pieces of a word with one sign more, and of two words -/
theorem win_app {k i : Nat} {x y : Wd} (h : i + k ≤ x.length) : win k (x ++ y) i = win k x i := by
  unfold win
  rw [List.drop_append_of_le_length (by omega), List.take_append_of_le_length (by rw [List.length_drop]; omega)]
theorem wins_snoc {k : Nat} {z : Wd} {c : Nat} (hk : 1 ≤ k) (h : k ≤ z.length + 1) : wins k (z ++ [c]) = wins k z ++ [z.drop (z.length + 1 - k) ++ [c]] := by
  unfold wins
  rw [List.length_append, List.length_singleton, show z.length + 1 + 1 - k = (z.length + 1 - k) + 1 by omega, List.range_succ, List.map_append]
  congr 1
  · refine List.map_congr_left fun i hi => ?_
    have hi := List.mem_range.mp hi
    exact win_app (by omega)
  · show [win k (z ++ [c]) (z.length + 1 - k)] = _
    unfold win
    rw [List.drop_append_of_le_length (by omega)]
    congr 1
    exact List.take_of_length_le (by rw [List.length_append, List.length_drop, List.length_singleton]; omega)
theorem often_snoc {k : Nat} {z p : Wd} {c : Nat} (hk : 1 ≤ k) (h : k ≤ z.length + 1) : often k (z ++ [c]) p = often k z p + (if z.drop (z.length + 1 - k) ++ [c] = p then 1 else 0) := by
  unfold often
  rw [wins_snoc hk h, List.count_append, List.count_singleton]
  congr 1
  simp [beq_iff_eq]
end Vm

set_option Elab.async false
set_option linter.all false
set_option maxRecDepth 100000
set_option maxHeartbeats 1000000
namespace Vm
open Vd
/-! ### short words in the order of lengths; what is learned of words -/
abbrev UpP (l : List Wd) : Prop := l.Pairwise fun x y => ltP x y = true
theorem ltP_iff {x y : Wd} : ltP x y = true ↔ x.length < y.length ∨ (x.length = y.length ∧ x < y) := by
  unfold ltP
  rw [Bool.or_eq_true, Bool.and_eq_true, decide_eq_true_iff, decide_eq_true_iff, decide_eq_true_iff]
theorem ltP_irr (x : Wd) : ¬ ltP x x = true := fun h => by
  rcases ltP_iff.mp h with a | ⟨_, b⟩
  · exact Nat.lt_irrefl _ a
  · exact lt_irr x b
theorem ltP_as {x y : Wd} (h : ltP x y = true) : ¬ ltP y x = true := fun h2 => by
  rcases ltP_iff.mp h with a | ⟨a, b⟩
  · rcases ltP_iff.mp h2 with c | ⟨c, d⟩ <;> omega
  · rcases ltP_iff.mp h2 with c | ⟨c, d⟩
    · omega
    · exact lt_as b d
theorem upP_uniq : ∀ {l m : List Wd}, UpP l → UpP m → (∀ x, x ∈ l ↔ x ∈ m) → l = m
  | [], [], _, _, _ => rfl
  | [], q :: m, _, _, h => absurd ((h q).mpr (List.mem_cons_self ..)) (by simp)
  | p :: l, [], _, _, h => absurd ((h p).mp (List.mem_cons_self ..)) (by simp)
  | p :: l, q :: m, hl, hm, h => by
    obtain ⟨l1, l2⟩ := List.pairwise_cons.mp hl
    obtain ⟨m1, m2⟩ := List.pairwise_cons.mp hm
    have e : p = q := by
      rcases List.mem_cons.mp ((h p).mp (List.mem_cons_self ..)) with e | a
      · exact e
      · rcases List.mem_cons.mp ((h q).mpr (List.mem_cons_self ..)) with e | b
        · exact e.symm
        · exact absurd (m1 p a) (ltP_as (l1 q b))
    subst e
    rw [upP_uniq l2 m2 fun x => ?_]
    constructor
    · intro hx
      rcases List.mem_cons.mp ((h x).mp (List.mem_cons_of_mem _ hx)) with e | a
      · subst e
        exact absurd (l1 x hx) (ltP_irr x)
      · exact a
    · intro hx
      rcases List.mem_cons.mp ((h x).mpr (List.mem_cons_of_mem _ hx)) with e | a
      · subst e
        exact absurd (m1 x hx) (ltP_irr x)
      · exact a
theorem upP_nodup {l : List Wd} (h : UpP l) : l.Nodup := List.Pairwise.imp (fun {a b} q (e : a = b) => ltP_irr b (by rw [e] at q; exact q)) h
def leL (a b : Wd) : Bool := decide (a.length ≤ b.length)
theorem tot_leL : PySem.W.TotalLe leL := ⟨fun a b c h1 h2 => by
    have x := of_decide_eq_true h1
    have y := of_decide_eq_true h2
    exact decide_eq_true (Nat.le_trans x y), fun a b => by
    rcases Nat.le_total a.length b.length with h | h
    · exact .inl (decide_eq_true h)
    · exact .inr (decide_eq_true h)⟩
/-- texts in their order, then by their lengths -/
theorem upP_sort {l : List Wd} (h : Up l) : UpP (l.mergeSort leL) := by
  show List.Pairwise (fun x y => ltP x y = true) (l.mergeSort leL)
  rw [List.pairwise_iff_forall_sublist]
  intro a b hs
  have p := List.pairwise_iff_forall_sublist.mp (PySem.W.sort_pairwise tot_leL l) hs
  have p' : a.length ≤ b.length := of_decide_eq_true p
  by_cases e : a.length = b.length
  · have f := hs.filter (PySem.W.sameRank leL a)
    rw [PySem.W.sort_stable tot_leL] at f
    have e2 : [a, b].filter (PySem.W.sameRank leL a) = [a, b] := by
      have c1 : PySem.W.sameRank leL a a = true := PySem.W.sameRank_self tot_leL a
      have c2 : PySem.W.sameRank leL a b = true := by
        unfold PySem.W.sameRank leL
        rw [decide_eq_true (by omega : a.length ≤ b.length), decide_eq_true (by omega : b.length ≤ a.length)]
        rfl
      rw [List.filter_cons, c1, if_pos rfl, List.filter_cons, c2, if_pos rfl, List.filter_nil]
    rw [e2] at f
    have u := List.pairwise_iff_forall_sublist.mp (h.filter _) f
    exact ltP_iff.mpr (.inr ⟨e, u⟩)
  · exact ltP_iff.mpr (.inl (by omega))
/-- the words shorter than k, by lengths -/
def shr (k : Nat) (l : List Wd) : List Wd := ((asc l).filter fun z => decide (z.length < k)).mergeSort leL
def longs (k : Nat) (l : List Wd) : List Wd := l.filter fun z => !decide (z.length < k)
def fis (k : Nat) (l : List Wd) : List Wd := asc ((longs k l).map fun z => z.take (k - 1))
def las (k : Nat) (l : List Wd) : List Wd := asc ((longs k l).map fun z => z.drop (z.length + 1 - k))
def pcs (k : Nat) (l : List Wd) : List Wd := asc ((longs k l).flatMap (wins k))
theorem upP_shr (k : Nat) (l : List Wd) : UpP (shr k l) := upP_sort ((up_asc l).filter _)
theorem mem_shr {k : Nat} {l : List Wd} {x : Wd} : x ∈ shr k l ↔ x ∈ l ∧ x.length < k := by
  unfold shr
  rw [(List.mergeSort_perm _ _).mem_iff, List.mem_filter, mem_asc, decide_eq_true_iff]
theorem mem_longs {k : Nat} {l : List Wd} {x : Wd} : x ∈ longs k l ↔ x ∈ l ∧ ¬ x.length < k := by
  unfold longs
  rw [List.mem_filter, Bool.not_eq_true', decide_eq_false_iff_not]
theorem mem_fis {k : Nat} {l : List Wd} {x : Wd} : x ∈ fis k l ↔ ∃ z ∈ l, ¬ z.length < k ∧ z.take (k - 1) = x := by
  unfold fis
  rw [mem_asc, List.mem_map]
  constructor
  · rintro ⟨z, h, e⟩
    obtain ⟨a, b⟩ := mem_longs.mp h
    exact ⟨z, a, b, e⟩
  · rintro ⟨z, a, b, e⟩
    exact ⟨z, mem_longs.mpr ⟨a, b⟩, e⟩
theorem mem_las {k : Nat} {l : List Wd} {x : Wd} : x ∈ las k l ↔ ∃ z ∈ l, ¬ z.length < k ∧ z.drop (z.length + 1 - k) = x := by
  unfold las
  rw [mem_asc, List.mem_map]
  constructor
  · rintro ⟨z, h, e⟩
    obtain ⟨a, b⟩ := mem_longs.mp h
    exact ⟨z, a, b, e⟩
  · rintro ⟨z, a, b, e⟩
    exact ⟨z, mem_longs.mpr ⟨a, b⟩, e⟩
theorem mem_pcs {k : Nat} {l : List Wd} {x : Wd} : x ∈ pcs k l ↔ ∃ z ∈ l, ¬ z.length < k ∧ x ∈ wins k z := by
  unfold pcs
  rw [mem_asc, List.mem_flatMap]
  constructor
  · rintro ⟨z, h, e⟩
    obtain ⟨a, b⟩ := mem_longs.mp h
    exact ⟨z, a, b, e⟩
  · rintro ⟨z, a, b, e⟩
    exact ⟨z, mem_longs.mpr ⟨a, b⟩, e⟩
theorem shr_congr {k : Nat} {l m : List Wd} (h : ∀ x, x ∈ l ↔ x ∈ m) : shr k l = shr k m := by
  unfold shr
  rw [asc_congr h]
theorem fis_congr {k : Nat} {l m : List Wd} (h : ∀ x, x ∈ l ↔ x ∈ m) : fis k l = fis k m := up_uniq (up_asc _) (up_asc _) fun x => by
  show x ∈ fis k l ↔ x ∈ fis k m
  rw [mem_fis, mem_fis]
  exact ⟨fun ⟨z, a, b⟩ => ⟨z, (h z).mp a, b⟩, fun ⟨z, a, b⟩ => ⟨z, (h z).mpr a, b⟩⟩
theorem las_congr {k : Nat} {l m : List Wd} (h : ∀ x, x ∈ l ↔ x ∈ m) : las k l = las k m := up_uniq (up_asc _) (up_asc _) fun x => by
  show x ∈ las k l ↔ x ∈ las k m
  rw [mem_las, mem_las]
  exact ⟨fun ⟨z, a, b⟩ => ⟨z, (h z).mp a, b⟩, fun ⟨z, a, b⟩ => ⟨z, (h z).mpr a, b⟩⟩
theorem pcs_congr {k : Nat} {l m : List Wd} (h : ∀ x, x ∈ l ↔ x ∈ m) : pcs k l = pcs k m := up_uniq (up_asc _) (up_asc _) fun x => by
  show x ∈ pcs k l ↔ x ∈ pcs k m
  rw [mem_pcs, mem_pcs]
  exact ⟨fun ⟨z, a, b⟩ => ⟨z, (h z).mp a, b⟩, fun ⟨z, a, b⟩ => ⟨z, (h z).mpr a, b⟩⟩
/-- sizes -/
def sizeW (l : List Wd) : Nat := (l.map fun z => z.length).sum
theorem sizeW_app (l m : List Wd) : sizeW (l ++ m) = sizeW l + sizeW m := by
  unfold sizeW
  rw [List.map_append, List.sum_append]
theorem sizeW_filter (p : Wd → Bool) : ∀ l : List Wd, sizeW (l.filter p) ≤ sizeW l
  | [] => Nat.le_refl _
  | z :: r => by
    have ih := sizeW_filter p r
    rw [List.filter_cons]
    split
    · show z.length + sizeW (r.filter p) ≤ z.length + sizeW r
      omega
    · show sizeW (r.filter p) ≤ z.length + sizeW r
      omega
theorem sizeW_mem {l : List Wd} {z : Wd} (h : z ∈ l) : z.length ≤ sizeW l := by
  induction l with
  | nil => exact absurd h (by simp)
  | cons y r ih =>
    rcases List.mem_cons.mp h with rfl | h
    · show z.length ≤ z.length + sizeW r
      omega
    · have := ih h
      show z.length ≤ y.length + sizeW r
      omega
theorem wins_few {k : Nat} (hk : 1 ≤ k) : ∀ l : List Wd, (l.flatMap (wins k)).length ≤ sizeW l
  | [] => Nat.le_refl _
  | z :: r => by
    have ih := wins_few hk r
    rw [List.flatMap_cons, List.length_append, wins_length]
    show z.length + 1 - k + _ ≤ z.length + sizeW r
    omega
theorem sizeW_ins (p : Wd) : ∀ l : List Wd, sizeW (ins p l) ≤ p.length + sizeW l
  | [] => Nat.le_refl _
  | q :: r => by
    have ih := sizeW_ins p r
    unfold ins
    split
    · exact Nat.le_refl _
    · split
      · show q.length + sizeW (ins p r) ≤ p.length + (q.length + sizeW r)
        omega
      · show q.length + sizeW r ≤ p.length + (q.length + sizeW r)
        omega
theorem sizeW_asc : ∀ l : List Wd, sizeW (asc l) ≤ sizeW l
  | [] => Nat.le_refl _
  | p :: r => by
    have ih := sizeW_asc r
    have a := sizeW_ins p (asc r)
    show sizeW (ins p (asc r)) ≤ p.length + sizeW r
    omega
theorem pcs_len {k : Nat} (hk : 1 ≤ k) (l : List Wd) : (pcs k l).length ≤ sizeW l :=
  Nat.le_trans (asc_length_le _) (Nat.le_trans (wins_few hk _) (sizeW_filter _ l))
theorem longs_len (k : Nat) (l : List Wd) : (longs k l).length ≤ l.length := List.length_filter_le _ _
theorem fis_len (k : Nat) (l : List Wd) : (fis k l).length ≤ l.length := Nat.le_trans (asc_length_le _) (by rw [List.length_map]; exact longs_len k l)
theorem las_len (k : Nat) (l : List Wd) : (las k l).length ≤ l.length := Nat.le_trans (asc_length_le _) (by rw [List.length_map]; exact longs_len k l)
theorem shr_len (k : Nat) (l : List Wd) : (shr k l).length ≤ l.length := by
  unfold shr
  rw [(List.mergeSort_perm _ _).length_eq]
  exact Nat.le_trans (List.length_filter_le _ _) (asc_length_le _)
/-- each less than the next -/
theorem riseB_of {α : Type} {lt : α → α → Bool} : ∀ {l : List α}, l.Pairwise (fun x y => lt x y = true) → riseB lt l = true
  | [], _ => rfl
  | [_], _ => rfl
  | a :: b :: r, h => by
    obtain ⟨h1, h2⟩ := List.pairwise_cons.mp h
    have ih := riseB_of h2
    unfold riseB at ih ⊢
    show (((a, b) :: (b :: r).zip r).all fun p => lt p.1 p.2) = true
    rw [List.all_cons, h1 b (List.mem_cons_self ..), Bool.true_and]
    exact ih
theorem rise_up {l : List Wd} (h : Up l) : riseB ltW l = true := riseB_of (h.imp fun {a b} q => decide_eq_true q)
end Vm

set_option Elab.async false
set_option linter.all false
set_option maxRecDepth 100000
set_option maxHeartbeats 2000000
namespace Vs
open PySem PySem.Spec PyProof.Rows L2 SrtO Vm
open PySem.W (EachIs AllAlike Sortable KeyPure dataLe)
/-! ### sorted(texts, key=len) -/
def IsW (v : Value) (z : Wd) : Prop := ∃ t, v = .str (mkS z) t
theorem each_vals : ∀ {out : List Value} {zs : List Wd}, EachIs IsW out zs → Vals ((zs.map mkS).map .str) out
  | _, _, .nil => .nil
  | _, _, .cons h r => .cons h (each_vals r)
theorem vals_each : ∀ {zs : List Wd} {us : List Value}, Vals ((zs.map mkS).map .str) us → EachIs IsW us zs
  | [], _, .nil => .nil
  | _ :: _, _, .cons h r => .cons h (vals_each r)
theorem leL_data : dataLe false (fun z : Wd => (.int ((mkS z).length : Nat) : PyData)) = leL := by
  rw [PySem.W.dataLe_int (β := Wd) fun z => (((mkS z).length : Nat) : Int)]
  funext a b
  show decide ((((mkS a).length : Nat) : Int) ≤ ((mkS b).length : Nat)) = decide (a.length ≤ b.length)
  rw [mkS_length, mkS_length]
  exact decide_eq_decide.mpr Int.ofNat_le
section
variable {X : Cx}
def rSortLen (K : PySem.W.Frag) (t : TA) : TE := fun σ H Q => t σ H fun vs H1 => ∃ (a : Addr) (ks : List Wd), vs = [V.ref a] ∧ SqL K H1 a ((ks.map mkS).map .str) ∧ ks.length ≤ 4000 ∧ (∀ z ∈ ks, z.length ≤ 4000) ∧ ∀ q, H1 q = none → Q (.ref q) (upd H1 q (.lst (((ks.mergeSort leL).map mkS).map .str)))
theorem pe_sortedLen {e : Expr} {t : TA} {p p2 p3 pos : Pos} (hgs : Gl X "sorted") (hs : X.mg "sorted" = none) (hgl : Gl X "len") (hl : X.mg "len" = none) (hu : X.A.units + 64 < cLine) (ha : PA X [e] t)
    (h1 : backTo pos (starEach [e] X.env) = (false, eval e X.env) :: backTo pos (starEach [] X.env) := by rfl) (h2 : (backTo pos (starEach [e] X.env)).any (·.1) = false := by rfl) :
    PE X (.Call (.Name "sorted" p) [e] [⟨some "key", .Name "len" p2, p3⟩] pos) (rSortLen X.K t) := by
  refine ⟨fun pins s σ H Q I h => ?_⟩
  refine wpAny_Call_Name_kw (ld_blt I hgs hs (show bootBuiltins "sorted" = some (.builtin "sorted") by decide +kernel) ?_)
  refine PyProof.Rows.callWith_kw (thn (ha.run pos pins s σ H _ I h) fun us s1 ⟨vs, H1, I1, r1, q1⟩ => ?_) h1 h2
  show wpAny _ _ (evalAll [(do let v ← eval (.Name "len" p2) X.env; standAt pos; pure v)]) _ _ s1
  refine wpAny_evalAll_cons (wpAny_bind (ld_blt I1 hgl hl PySem.boot_len (wpAny_bind (wpAny_standAt (wpAny_pure ?_)))))
  refine wpAny_evalAll_nil ?_
  obtain ⟨a, ks, rfl, hS, hk, hz, q⟩ := q1
  obtain ⟨its, rv, hl0, hsz⟩ := I1.list hS
  rw [Vals.ref1 r1]
  show wpAny (model X.prog X.w) X.A (call (.builtin "sorted") [.ref a] [(Str.ofString "key", .builtin "len")]) _ _ s1
  have k16 : ks.length ≤ sizeLine := by rw [sizeLine_eq]; omega
  refine PySem.W.sorted_key_data (β := Wd) (R := IsW) (b := false) (fun z => .int ((mkS z).length : Nat)) hl0.isList (vals_each rv) (AllAlike.of fun _ _ => by simp [PySem.W.alike]) (Sortable.others fun _ => ⟨(by intro z; cases z), fun _ => (by intro z; cases z)⟩) k16
    (fun x _ => by show X.A.units + 2 + PyData.depth (.int _) < cLine; simp only [PyData.depth]; omega) (PyProof.Rows.ksk_s1 _ _) (fun _ => PyProof.Rows.ksk_l1 _ _) (fun _ => PyProof.Rows.ksk_t4 _ _) (fun v z hv hz' h tk kp => ?_) fun out c h' tk kp fresh hD len eo => ?_
  · obtain ⟨t', rfl⟩ := hv
    have := hz z hz'
    refine len_str (by rw [mkS_length]; omega) ⟨h, _, rfl, fun _ _ e => e, .int _ _⟩
  · rw [leL_data] at eo
    have rv2 := each_vals eo
    have hlen : (((ks.mergeSort leL).map mkS).map V.str).length ≤ sizeLine := by
      rw [List.length_map, List.length_map, List.length_mergeSort]
      exact k16
    exact ⟨.ref _, upd H1 (s1.heap.objs.size + 1) (.lst (((ks.mergeSort leL).map mkS).map .str)), I1.laid (t' := tk) kp (Nat.le_succ _) ⟨hlen, out, c, rv2, hD⟩, rfl, q _ (I1.hok.fresh (Nat.le_succ _))⟩
end
/-! ### sorted(d), the keys pairs of a length and a text -/
abbrev keyL (z : Wd) : List Key := [Sum.inl (z.length : Nat), Sum.inr (mkS z)]
def entL (ws : List Wd) : List (List Key × V) := ws.map fun z => (keyL z, V.bl true)
theorem keyL_iff {a b : Wd} : keyL a = keyL b ↔ a = b := ⟨fun h => mkS_inj (Sum.inr.inj (List.cons.inj (List.cons.inj h).2).1), fun h => by rw [h]⟩
theorem entL_length (ws : List Wd) : (entL ws).length = ws.length := List.length_map _
theorem valV_entL (p : Wd) : ∀ T : List Wd, valV (entL T) (keyL p) = if p ∈ T then some (V.bl true) else none
  | [] => by simp [entL, valV_nil]
  | q :: r => by
    show valV ((keyL q, V.bl true) :: entL r) (keyL p) = _
    by_cases e : q = p
    · subst e
      rw [valV_pos (p := (keyL q, V.bl true)) rfl, if_pos (List.mem_cons_self ..)]
    · rw [valV_neg (p := (keyL q, V.bl true)) (fun z => e (keyL_iff.mp z)), valV_entL p r]
      have e' : ¬ p = q := fun z => e z.symm
      simp only [List.mem_cons, e', false_or]
theorem putK_entL (p : Wd) (T : List Wd) : putK (entL T) (keyL p) (V.bl true) = entL (more T p) := by
  have e := valV_entL p T
  unfold more
  by_cases h : p ∈ T
  · rw [if_pos h]
    rw [if_pos h] at e
    unfold putK
    rw [valV_any, e, if_pos (show (some (V.bl true)).isSome = true from rfl)]
    unfold entL
    rw [List.map_map]
    refine List.map_congr_left fun q _ => ?_
    show (if keyL q = keyL p then (keyL q, V.bl true) else (keyL q, V.bl true)) = (keyL q, V.bl true)
    split <;> rfl
  · rw [if_neg h]
    rw [if_neg h] at e
    rw [putK_new _ e]
    unfold entL
    rw [List.map_append]
    rfl
theorem put_lenText {H : Hp} {d b : Addr} {T : List Wd} {p : Wd} (e : H d = some (.dT (entL T))) (eb : H b = some (.tup [.int (p.length : Nat), .str (mkS p)])) (hl : T.length < sizeLine) :
    DPut H d (.ref b) (.bl true) (upd H d (.dT (entL (more T p)))) := by
  have z := DPut.t (k := keyL p) (v := V.bl true) e eb (by rw [entL_length]; exact hl)
  rw [putK_entL] at z
  exact z
def leP (a b : Wd) : Bool := !Vd.ltP b a
theorem leP_data : dataLe false Vd.pairP = leP := by
  funext a b
  show (!PySem.W.dataLt (Vd.pairP b) (Vd.pairP a)) = !Vd.ltP b a
  rw [Vd.lt_pair]
/-- such a pair, as an object -/
def IsLP (H : Hp) (b : Addr) (z : Wd) : Prop := H b = some (.tup [.int (z.length : Nat), .str (mkS z)])
def IsRP (H : Hp) (v : Value) (z : Wd) : Prop := ∃ b, v = .ref b ∧ IsLP H b z
theorem keys_each {H : Hp} : ∀ {ws : List Wd} {bs : List Addr}, IsKeys H (entL ws) bs → EachIs (IsRP H) (bs.map Value.ref) ws
  | [], [], _ => .nil
  | [], _ :: _, h => nomatch h
  | _ :: _, [], h => nomatch h
  | z :: ws, b :: bs, h => by
    cases h with
    | cons h1 r => exact .cons ⟨b, rfl, h1⟩ (keys_each r)
theorem each_refs {H : Hp} : ∀ {out : List Value} {zs : List Wd}, EachIs (IsRP H) out zs → ∃ ts : List Addr, out = ts.map Value.ref ∧ EachIs (IsLP H) ts zs
  | _, _, .nil => ⟨[], rfl, .nil⟩
  | _, _, .cons h r => by
    obtain ⟨b, rfl, hb⟩ := h
    obtain ⟨ts, rfl, e⟩ := each_refs r
    exact ⟨b :: ts, rfl, .cons hb e⟩
section
variable {X : Cx}
theorem cr_sortedDL (hc : X.calm = true) (hu : X.A.units + 64 < cLine) : CallR X (.builtin "sorted") (fun xs H Q => ∃ (d : Addr) (ws : List Wd), xs = [V.ref d] ∧ H d = some (.dT (entL ws)) ∧ ws.length ≤ 4000 ∧
    ∀ (p : Addr) (ts : List Addr), H p = none → EachIs (IsLP H) ts (ws.mergeSort leP) → Q (.ref p) (upd H p (.lst (ts.map V.ref)))) := by
  intro pins s σ H xs us Q I r h
  obtain ⟨d, wl, rfl, hd, hw, q⟩ := h
  rw [Vals.ref1 r]
  obtain ⟨z, hs, ks, pr, o, es, ep, ho, hx, hdt, he, hn⟩ := (show ObjOk X.prog X.w H s.heap d (.dT (entL wl)) from I.hok d _ hd)
  have l1 : es.size = ks.length := size_of_entries he
  have l2 : (entL wl).length = ks.length := Paired.length pr
  refine Calls.call_function_entry PyProof.Rows.kind_sorted PyProof.Rows.plain_sorted PyProof.Rows.entry_sorted (PyProof.Rows.args_sorted1 _) ?_
  unfold Builtin.«sorted»
  refine wpAny_bind (m := checkCount "sorted" 1 1 _) (wpAny_pure ?_)
  refine wpAny_bind (PySem.W.kdu_collect (A := X.A.in1) (kdl_raw hs hx hdt) (I.ok.hd hc) ho (by omega) fun h' tk acc hk it => ?_)
  have ea : acc.toList = (ks.map fun x => x.2.1).map Value.ref := by
    have hl : acc.toList.length = ks.length := by rw [Array.length_toList, it.1]; exact l1
    apply List.ext_getElem?
    intro j
    rw [List.getElem?_map, List.getElem?_map]
    cases hj : acc.toList[j]? with
    | none =>
      have h1 := List.getElem?_eq_none_iff.mp hj
      rw [List.getElem?_eq_none (by omega)]
      all_goals rfl
    | some v =>
      obtain ⟨en, hen, hv⟩ := it.2 j v (by rw [← Array.getElem?_toList]; exact hj)
      have qe := entry_at he j
      rw [hen] at qe
      cases hb : ks[j]? with
      | none => rw [hb] at qe; exact nomatch (show some en = none from qe)
      | some b =>
        rw [hb] at qe
        have e2 : en = entryOfKey (tupleKind (mixKind X.prog X.w)) b := Option.some.inj qe
        rw [hv, e2]
        all_goals rfl
  have ke : EachIs (IsRP H) acc.toList wl := by rw [ea]; exact keys_each (isKeys_of pr)
  have I1 : Inv X pins σ H { s with heap := h', toks := tk } := I.kept hk
  have hlen := ke.length
  have hz : acc.toList.length ≤ sizeLine := by rw [hlen, sizeLine_eq]; omega
  refine wpAny_bind (wpAny_newList ?_ hz)
  have hL : (h'.push (seqObj "list" acc.toList.toArray 0)).get? h'.objs.size = some (seqObj "list" acc.toList.toArray 0) := Heap.get?_push_size _ rfl
  have er : EachIs (fun v b => ∃ as, Reads (h'.push (seqObj "list" acc.toList.toArray 0)) v (Vd.pairP b) as ∧ h'.objs.size ∉ as) acc.toList wl := ke.mono fun v b hb => by
    obtain ⟨q', rfl, hq'⟩ := hb
    obtain ⟨_, its2, r2, o2, ho2, hc2, n2, hd2⟩ := I1.hok _ _ hq'
    obtain ⟨u1, u2, rfl, ri, rj⟩ := vals2 r2
    obtain ⟨t1, rfl⟩ := ri
    obtain ⟨t2, rfl⟩ := rj
    exact ⟨_, .tuple (Heap.get?_push_of_some _ ho2) hc2 hd2 (.cons (.int _ _) (.cons (.str _ _) .nil)), by simp⟩
  refine wpAny_bind (wpAny_holding (PySem.W.list_sort_data (β := Wd) (R := IsRP H) (enc := Vd.pairP) hL ke er (AllAlike.of fun _ _ => Vd.alike_pair _ _) (Sortable.tuples fun _ => ⟨_, _, rfl⟩) (by rw [sizeLine_eq]; omega)
    (fun b _ => by show X.A.in1.units + 1 + PyData.depth (Vd.pairP b) < cLine; simp only [Vd.pairP, PyData.depth, PyData.depthAll]; have : X.A.in1.units ≤ X.A.units + 1 := Nat.le_of_eq rfl; omega) fun out hl eo => ?_))
  rw [leP_data] at eo
  obtain ⟨ts, rfl, et⟩ := each_refs eo
  obtain ⟨c, hc3⟩ := sortedHeap_at (vs := acc.toList) (out := (List.map Value.ref ts).toArray) hL
  have hls : (ts.map V.ref).length ≤ sizeLine := by
    have := et.length
    rw [List.length_mergeSort] at this
    rw [List.length_map, this, sizeLine_eq]
    omega
  have kp : ∀ b u, h'.get? b = some u → (sortedHeap (h'.push (seqObj "list" acc.toList.toArray 0)) h'.objs.size acc.toList (List.map Value.ref ts).toArray).get? b = some u := fun b u e => by
    have hb := Heap.lt_size e
    rw [sortedHeap_old (Nat.ne_of_lt hb) (by rw [size_push']; exact Nat.lt_succ_of_lt hb)]
    exact Heap.get?_push_of_some _ e
  refine wpAny_pure ⟨_, rfl, ?_⟩
  refine ⟨.ref _, upd H h'.objs.size (.lst (ts.map V.ref)), I1.laid (t' := tk) kp (Nat.le_refl _) ⟨hls, _, c, vals_refs ts, hc3⟩, rfl, q _ ts (I1.hok.fresh (Nat.le_refl _)) et⟩
end
end Vs

set_option Elab.async false
set_option linter.all false
set_option maxRecDepth 100000
set_option maxHeartbeats 4000000
namespace Vs
open PySem PySem.Spec PyProof.Rows L2 SrtO Vm
open PySem.Froz (SD sObj addTx tailTx sing TxOk)
section
variable {P : Program} {w : World} {A : Around} {E : Value → Shared → Prop} {s : Shared}
theorem iter_anyT {l : Addr} {items : Array Value} {Q : Value → Shared → Prop} (hl : s.heap.IsTuple l items)
    (h : ∀ s₂ : Shared, s₂ = { s with heap := s.heap.push { cls := .type "tuple_iterator", data := .fields #[.ref l, .int 0 0] } } →
      (s₂.heap.IsTupleIter s.heap.objs.size l 0 ∧ s₂.heap.IsTuple l items) → l ≠ s.heap.objs.size → Q (.ref s.heap.objs.size) s₂) : wpAny (model P w) A (pyIter (.ref l)) Q E s := by
  have hlt : l < s.heap.objs.size := by obtain ⟨_, e, _⟩ := hl; exact Heap.lt_size e
  exact wpAny_pyIter_tuple hl (h _ rfl ⟨⟨_, Heap.get?_push_size _ rfl, rfl, rfl⟩, hl.at fun o e => Heap.get?_push_of_some _ e⟩ (Nat.ne_of_lt hlt))
/-- set(tuple of texts) -/
theorem call_set_tupT {l : Addr} {items : Array Value} {xs : List Str} {Q : Value → Shared → Prop} (hh : A.handled = none) (hl : s.heap.IsTuple l items) (hx : StrsAre items.toList xs) (hb : xs.length + 1 < scanBound)
    (h : ∀ (s' : Shared) D m, (∀ b o, s.heap.get? b = some o → s'.heap.get? b = some o) → s'.gens = s.gens → s'.os = s.os → s'.heap.get? s.heap.objs.size = some (sObj "set" D) → Tx P w D m → m.length ≤ xs.length → (∀ k, k ∈ m ↔ k ∈ xs) → Q (.ref s.heap.objs.size) s') :
    wpAny (model P w) A (call (.type "set") [.ref l]) Q E s := by
  refine set_by_init fun R hR => ?_
  have hlen : items.size = xs.length := by
    have q := StrsAre.length hx
    rw [Array.length_toList] at q
    exact q
  have hS : (s.heap.push (sObj "set" (emptyD w))).get? s.heap.objs.size = some (sObj "set" (emptyD w)) := Heap.get?_push_size _ rfl
  have hold : ∀ b o, s.heap.get? b = some o → (s.heap.push (sObj "set" (emptyD w))).get? b = some o := fun b o e => Heap.get?_push_of_some _ e
  have hl1 : (s.heap.push (sObj "set" (emptyD w))).IsTuple l items := hl.at fun o e => Heap.get?_push_of_some _ e
  have hls : l ≠ s.heap.objs.size := by
    obtain ⟨_, e, _⟩ := hl
    exact Nat.ne_of_lt (Heap.lt_size e)
  have t1 := PySem.F.sub_tuple_set
  have t2 := PySem.F.sub_tuple_frozenset
  have t3 : (Value.type "tuple" == Value.type "dict") = false := by decide
  have hty : Shared.TypeIs { s with heap := s.heap.push (sObj "set" (emptyD w)) } (.ref l) "tuple" := hl1.typeIs (s := { s with heap := s.heap.push (sObj "set" (emptyD w)) })
  generalize s.heap.push (sObj "set" (emptyD w)) = h1 at hS hold hl1 hty ⊢
  unfold Builtin.«set.__init__» noKeywords Builtin.Frozenset.updateFrom
  generalize hPI : pyIter = PI
  wp_walk
  subst hPI
  refine iter_anyT hl1 fun s2 e2 st hne => wpAny_bind (wpAny_runValue ?_)
  subst e2
  have hx1 : ∀ b u', h1.get? b = some u' → b ≠ h1.objs.size := fun b u' e => Nat.ne_of_lt (Heap.lt_size e)
  have hSf : s.heap.objs.size ∉ [h1.objs.size, l] := fun z => by
    rcases List.mem_cons.mp z with z | z
    · exact hx1 _ _ hS z
    · exact hls (List.mem_singleton.mp z).symm
  have hval : ∀ (i : Nat) (v : Value), items[i]? = some v → ∃ k u, xs[i]? = some k ∧ v = .str k u := fun i v hv => by
    have hi : i < xs.length := by rw [← hlen]; exact (Array.getElem?_eq_some_iff.mp hv).1
    obtain ⟨t, e⟩ := SS.strs_at hx i v (by rw [Array.getElem?_toList]; exact hv)
    refine ⟨xs[i], t, List.getElem?_eq_getElem hi, ?_⟩
    rw [e, List.getD_eq_getElem?_getD, List.getElem?_eq_getElem hi] <;> rfl
  refine loop_txs ((Walks.tuple (by simp [hh]) _ l hne items).toS) s.heap.objs.size hSf hlen (by rw [hlen]; exact hb) hval _ 0 _ rfl (Nat.zero_le _) st ⟨_, [], Heap.get?_push_of_some _ hS, tx_empty, Nat.le_refl _, fun k => by simp⟩ fun s2 D m mv hS2 F hm1 hm => ?_
  refine wpAny_pure (wpAny_pure (hR _ (h s2 D m (fun b o' e => ?_) mv.gens mv.os hS2 F (by rw [← hlen]; exact hm1) hm)))
  refine mv.heap b o' (fun z => ?_) (Heap.get?_push_of_some _ (hold b o' e))
  rcases List.mem_cons.mp z with z | z
  · rw [z] at e
    exact Nat.lt_irrefl _ (Heap.lt_size e)
  · exact hx1 _ _ (hold b o' e) (List.mem_singleton.mp z)
end
section
variable {X : Cx}
/-- set(xs), a tuple of texts -/
theorem cr_setTupAt {P : Program} {w : World} (hc : X.calm = true) (eP : X.prog = P) (ew : X.w = w) : CallR X (.type "set") (fun xs H Q => ∃ (a : Addr) (ks : List Wd), xs = [.ref a] ∧ SqT X.K H a ((ks.map mkS).map .str) ∧ ks.length ≤ 4000 ∧
    ∀ p l (ms : List Wd), H p = none → l.Perm (ms.map mkS) → ms.Nodup → ms.length ≤ 4000 → (∀ k, k ∈ ms ↔ k ∈ ks) → Q (.ref p) (upd H p (SetTxO P w p l))) := by
  subst eP
  subst ew
  intro pins s σ H vs us Q I r h
  obtain ⟨a, ks, rfl, hs, hl, q⟩ := h
  obtain ⟨its, rv, hl0, hz⟩ := I.tuple hs
  rw [Vals.ref1 r]
  have hx := strs_vals rv
  refine call_set_tupT (I.ok.hd hc) (show s.heap.IsTuple a its.toArray from hl0) (by simpa using hx) (by rw [List.length_map]; exact Nat.lt_of_le_of_lt (Nat.succ_le_succ hl) (by decide)) fun s' D l k g o hS F hn hm => ?_
  have em : ((l.map (fun y : Str => y.cps.toList)).map mkS) = l := by
    rw [List.map_map, show (mkS ∘ fun y : Str => y.cps.toList) = id from funext fun y => mkS_of y, List.map_id]
  refine laid_new I k g o (Nat.le_refl _) (setTxO_new ⟨D, hS, F⟩) fun hn' => q _ l (l.map fun y : Str => y.cps.toList) hn' (by rw [em]) ?_ ?_ fun x => ?_
  · refine List.Pairwise.map _ (fun a b n e => n ?_) F.nd
    rw [← mkS_of a, ← mkS_of b, e]
  · rw [List.length_map]
    rw [List.length_map] at hn
    omega
  · constructor
    · intro h
      obtain ⟨y, hy, rfl⟩ := List.mem_map.mp h
      obtain ⟨z, hz, e⟩ := List.mem_map.mp ((hm y).mp hy)
      rw [← e, mkS_cps]
      exact hz
    · intro h
      have h2 := (hm (mkS x)).mpr (List.mem_map_of_mem h)
      have h3 := List.mem_map_of_mem (f := fun y : Str => y.cps.toList) h2
      rw [mkS_cps] at h3
      exact h3
end
end Vs

set_option Elab.async false
set_option linter.all false
set_option maxRecDepth 100000
set_option maxHeartbeats 2000000
namespace Vs
open PySem PySem.Spec PyProof.Rows L2
/-! ### walks with any body: comprehensions of two loops; calls of defs with a star -/
theorem walk_gen {J : It} {n : Nat} {G : Hp → Prop} {Y : Nat → Hp → V → Hp → Prop} (wk : Walk J n G Y) {B : V → Hp → (Hp → Prop) → Prop} {H0 : Hp} {Qd : Hp → Prop} (Pv : Nat → Hp → Prop) (start : Pv 0 H0) (good : ∀ i H, i ≤ n → Pv i H → G H)
    (turn : ∀ i x H H', i < n → Pv i H → Y i H x H' → B x H' (Pv (i + 1))) (fin : ∀ H, Pv n H → Qd H) :
    ∃ W : Nat → Nat → Hp → Prop, (∃ m, W 0 m H0) ∧ ∀ i m H, W i m H → (J.stop i H ∧ Qd H) ∨ (J.go i H ∧ ∃ Nx : Hp → Prop, (∀ H', Nx H' → ∃ m', m' < m ∧ W (i + 1) m' H') ∧ ∀ x H', J.yld i H x H' → B x H' Nx) := by
  refine ⟨fun j m H => m = n - j ∧ j ≤ n ∧ Pv j H, ⟨n - 0, rfl, Nat.zero_le _, start⟩, fun j m H ⟨em, hj, pj⟩ => ?_⟩
  have gj := good j H hj pj
  rcases Nat.lt_or_ge j n with lt | ge
  · refine .inr ⟨wk.goes j H lt gj, Pv (j + 1), fun H' pn => ⟨n - (j + 1), by omega, rfl, lt, pn⟩, fun x H' yx => turn j x H H' lt pj (wk.yields j H x H' lt gj yx)⟩
  · obtain rfl : j = n := by omega
    exact .inl ⟨wk.stops H gj, fin H pj⟩
section
variable {X : Cx} {CX : CXT} {k : Nat} {f : Addr} {sp : Sp} {E : XK} {x : Str} {p pos : Pos} {e : Expr} {es : List Expr} {t : TA}
/-- x(e, ..), x a def of the module that makes objects while it binds -/
theorem pe_callR (F : FnR X.prog X.w X.K X.mg X.base CX k f sp) (room : Room k X.A) (hg : Gl X x) (hm : X.mg x = some (.ref f)) (kp : PySem.W.keepIn X.K (.ref f) = true) (px : Passes CX X E) (ha : PA X (e :: es) t) (hdb : (x == ("__debug__" : Str)) = false := by decide)
    (h1 : starEach (e :: es) X.env = (false, eval e X.env) :: starEach es X.env := by rfl) (h2 : (backTo pos (starEach es X.env)).any (·.1) = false := by rfl) :
    PE X (.Call (.Name x p) (e :: es) [] pos) (fun σ H Q => t σ H fun vs H1 => sp vs H1 Q E) := by
  refine ⟨fun pins s σ H Q I h => wpAny_Call_Name_kw (ld_glob I hg hm ?_ hdb)⟩
  refine PySem.W.callWith_K (h₀ := X.base) I.ok.mod.kin kp (thn (ha.run pos pins s σ H _ I h) fun us s1 ⟨vs, H1, I1, r, q⟩ => ⟨I1.kIn, ?_⟩) h1 h2
  exact wpAny_call (run_fnR F room px I1 r q)
end
/-- rules for a fixed K -/
theorem len_atK {X : Cx} {K : PySem.W.Frag} (e : X.K = K) : CallR X (.builtin "len") (fun xs H Q => ∃ p ys, xs = [.ref p] ∧ (SqL K H p ys ∨ SqT K H p ys) ∧ Q (.int ys.length) H) := e ▸ call_len_seq
theorem pe_bm_at {X : Cx} {K : PySem.W.Frag} {T : String} {id : String} {name : Str} {r : V → List V → Hp → VK → Prop} {o e : Expr} {es : List Expr} {to : TE} {t : TA} {apos cpos : Pos} (eK : X.K = K) (pa : PlainAttrs T) (slot : Slot T name id) (hty : typeOf (.builtin id) = pure (.type "method_descriptor")) (hm : MtR X id r) (ho : PE X o to) (ha : PA X (e :: es) t)
    (g1 : attributeBase o name X.env (eval o X.env) = eval o X.env := by rfl)
    (g2 : ((backTo cpos (starEach (e :: es) X.env)).all (fun x => !x.1) && (backToKw cpos (keywordEach [] X.env)).all (fun x => x.1.isSome) && decide ((e :: es).length + ([] : List Keyword).length + (if ([] : List Keyword).isEmpty then 0 else 1) < 30)) = true := by rfl)
    (g3 : (apos.endLine == cpos.line) = true := by rfl) (g4 : starEach (e :: es) X.env = (false, eval e X.env) :: starEach es X.env := by rfl) (g5 : (backTo cpos (starEach es X.env)).any (·.1) = false := by rfl) :
    PE X (.Call (.Attribute o name apos) (e :: es) [] cpos) (tBM K T r to t) := by
  subst eK
  exact pe_bm pa slot hty hm ho ha g1 g2 g3 g4 g5
end Vs

set_option Elab.async false
set_option linter.all false
set_option maxRecDepth 100000
set_option maxHeartbeats 4000000
namespace Vf
open PySem PySem.Spec PyProof.Rows L2 L2.Vx Vs Vm
abbrev sLearned : Stmt := top 17
/-! ### views, as objects -/
def ViewAt (H : Hp) (k : Nat) (v : V) (z : Wd) : Prop := ∃ a : Addr, v = .ref a ∧ ((z.length < k ∧ H a = some (.tup [.str "short", .str (mkS z)])) ∨
  (¬ z.length < k ∧ ∃ (c : Addr) (us : List V), H a = some (.tup [.str "long", .str (mkS (z.take (k - 1))), .str (mkS (z.drop (z.length + 1 - k))), .ref c]) ∧ H c = some (.tup us) ∧ us.length = (asc (wins k z)).length ∧
    ∀ (j : Nat) (p : Wd), (asc (wins k z))[j]? = some p → ∃ (t : Addr) (n : Int), us[j]? = some (V.ref t) ∧ H t = some (.tup [.str (mkS p), .int n])))
/-- all tuples stay -/
def TK (H H' : Hp) : Prop := ∀ b ys, H b = some (.tup ys) → H' b = some (.tup ys)
theorem tk_same {H H' : Hp} (s : Same H H') : TK H H' := fun b ys e => s b _ e
theorem tk_put {H : Hp} {D : Addr} {l : List V} (e : H D = some (.lst l)) (o : HO) : TK H (upd H D o) := fun b ys h => by
  rw [upd_ne (fun z => by rw [z, e] at h; exact nomatch (Option.some.inj h))]
  exact h
theorem ViewAt.tk {H H' : Hp} {k : Nat} {v : V} {z : Wd} (h : ViewAt H k v z) (s : TK H H') : ViewAt H' k v z := by
  obtain ⟨a, e, h⟩ := h
  refine ⟨a, e, ?_⟩
  rcases h with ⟨h1, h2⟩ | ⟨h1, c, us, h2, h3, h4, h5⟩
  · exact .inl ⟨h1, s _ _ h2⟩
  · refine .inr ⟨h1, c, us, s _ _ h2, s _ _ h3, h4, fun j p hp => ?_⟩
    obtain ⟨t, n, a1, a2⟩ := h5 j p hp
    exact ⟨t, n, a1, s _ _ a2⟩
theorem view_at {H : Hp} {S : Addr → Prop} {k : Nat} {v : V} {z : Wd} (h : Dt H S v (viewD k 1 z)) : ViewAt H k v z := by
  by_cases c : z.length < k
  · rw [view_short c] at h
    obtain ⟨a, xs, rfl, e, _, r⟩ := dt_tup h
    obtain ⟨v1, r1, rfl, h1, r⟩ := dtA_one r
    obtain ⟨v2, r2, rfl, h2, r⟩ := dtA_one r
    obtain rfl := dtA_nil r
    rw [dt_str h1, dt_str h2] at e
    exact ⟨a, rfl, .inl ⟨c, e⟩⟩
  · rw [view_long c, cnt_eq] at h
    obtain ⟨a, xs, rfl, e, _, r⟩ := dt_tup h
    obtain ⟨v1, r1, rfl, h1, r⟩ := dtA_one r
    obtain ⟨v2, r2, rfl, h2, r⟩ := dtA_one r
    obtain ⟨v3, r3, rfl, h3, r⟩ := dtA_one r
    obtain ⟨v4, r4, rfl, h4, r⟩ := dtA_one r
    obtain rfl := dtA_nil r
    obtain rfl := dt_str h1
    obtain rfl := dt_str h2
    obtain rfl := dt_str h3
    obtain ⟨c4, us, rfl, e6, _, r⟩ := dt_tup h4
    have hl := dtA_len r
    rw [List.length_map] at hl
    refine ⟨a, rfl, .inr ⟨c, c4, us, e, e6, hl, fun j p hp => ?_⟩⟩
    have hj : j < us.length := by rw [hl]; exact (List.getElem?_eq_some_iff.mp hp).1
    obtain ⟨d, hd, dx⟩ := dtA_at r (List.getElem?_eq_getElem hj)
    rw [List.getElem?_map, hp] at hd
    obtain rfl := Option.some.inj hd
    obtain ⟨t, et, ht⟩ := dt_pair dx
    exact ⟨t, _, by rw [List.getElem?_eq_getElem hj, et], ht⟩
def ViewsAt (H : Hp) (k : Nat) (xs : List V) (ws : List Wd) : Prop := xs.length = ws.length ∧ ∀ (i : Nat) (z : Wd), ws[i]? = some z → ∃ v, xs[i]? = some v ∧ ViewAt H k v z
theorem ViewsAt.tk {H H' : Hp} {k : Nat} {xs : List V} {ws : List Wd} (h : ViewsAt H k xs ws) (s : TK H H') : ViewsAt H' k xs ws := ⟨h.1, fun i z e => by
  obtain ⟨v, a, b⟩ := h.2 i z e
  exact ⟨v, a, b.tk s⟩⟩
theorem ViewsAt.snoc {H : Hp} {k : Nat} {xs : List V} {ws : List Wd} {v : V} {z : Wd} (h : ViewsAt H k xs ws) (hv : ViewAt H k v z) : ViewsAt H k (xs ++ [v]) (ws ++ [z]) := by
  refine ⟨by rw [List.length_append, List.length_append, h.1] <;> rfl, fun i y e => ?_⟩
  rcases Nat.lt_or_ge i ws.length with c | c
  · rw [List.getElem?_append_left c] at e
    obtain ⟨u, a, b⟩ := h.2 i y e
    exact ⟨u, by rw [List.getElem?_append_left (by rw [h.1]; exact c)]; exact a, b⟩
  · rw [List.getElem?_append_right c] at e
    have : i - ws.length = 0 := by
      have := (List.getElem?_eq_some_iff.mp e).1
      simp only [List.length_cons, List.length_nil] at this
      omega
    rw [this] at e
    obtain rfl := Option.some.inj e
    refine ⟨v, ?_, hv⟩
    rw [List.getElem?_append_right (by rw [h.1]; exact c), h.1, this]
    rfl
theorem ViewsAt.get {H : Hp} {k : Nat} {xs : List V} {ws : List Wd} {i : Nat} {v : V} (h : ViewsAt H k xs ws) (e : xs[i]? = some v) : ∃ z, ws[i]? = some z ∧ ViewAt H k v z := by
  have hi : i < ws.length := by rw [← h.1]; exact (List.getElem?_eq_some_iff.mp e).1
  obtain ⟨u, a, b⟩ := h.2 i _ (List.getElem?_eq_getElem hi)
  rw [e] at a
  obtain rfl := Option.some.inj a
  exact ⟨_, List.getElem?_eq_getElem hi, b⟩
theorem piT_at {K : PySem.W.Frag} {X : Cx} {tg l : Expr} {tl : TE} (e : X.K = K) (hl : PE X l tl) : PI X tg l (iTup K tl) := e ▸ pi_tup hl
theorem if_fl' {A B : Prop} {c : Bool} (e : c = false) (h : B) : if c = true then A else B := by
  rw [if_neg (by rw [e]; decide)]
  exact h
/-! ### what is learned -/
def lrnD (k : Nat) (zs : List Wd) : PyData := judgeD k (shr k zs) (fis k zs) (las k zs) (pcs k zs)
def spLrn0 : Sp := fun vs H Q _ => ∃ (k : Nat) (zs : List Wd) (p : Addr), vs = [.int k, .ref p] ∧ H p = some (.tup ((zs.map mkS).map .str)) ∧ 1 ≤ k ∧ k ≤ 1000 ∧ zs.length ≤ 20 ∧ sizeW zs ≤ 3000 ∧ ∀ v H', Same H H' → Dt H' (New H) v (lrnD k zs) → Q v H'
def spLrn : Sp := fun vs H Q _ => ∃ (k : Nat) (zs : List Wd), vs = .int k :: (zs.map mkS).map .str ∧ 1 ≤ k ∧ k ≤ 1000 ∧ zs.length ≤ 20 ∧ sizeW zs ≤ 3000 ∧ ∀ v H', Same H H' → Dt H' (New H) v (lrnD k zs) → Q v H'
theorem dtA_words {H : Hp} {S : Addr → Prop} : ∀ L : List Wd, DtAll H S ((L.map mkS).map .str) (L.map fun z => .str (mkS z))
  | [] => .nil
  | z :: r => .cons (.flat (show FlatD (.str (mkS z)) (.str (mkS z)) from rfl)) (dtA_words r)
theorem dt_ofWords {H : Hp} {S : Addr → Prop} {t : Addr} {L : List Wd} (e : H t = some (.tup ((L.map mkS).map .str))) (st : S t) : Dt H S (.ref t) (wordsD L) := .tup e st (dtA_words L)
theorem take_filter {p : Wd → Bool} {l : List Wd} {i : Nat} {z : Wd} (h : l[i]? = some z) : (l.take (i + 1)).filter p = (l.take i).filter p ++ (if p z = true then [z] else []) := by
  rw [List.take_add_one, h, List.filter_append]
  congr 1
  show [z].filter p = _
  rw [List.filter_cons]
  rfl
theorem flat_few (k : Nat) : ∀ l : List Wd, (l.flatMap fun z => asc (wins k z)).length ≤ (l.flatMap (wins k)).length
  | [] => Nat.le_refl _
  | z :: r => by
    have ih := flat_few k r
    have a := asc_length_le (wins k z)
    rw [List.flatMap_cons, List.flatMap_cons, List.length_append, List.length_append]
    omega
theorem flat_take {f : Wd → List Wd} {l : List Wd} {i : Nat} {z : Wd} (h : l[i]? = some z) : (l.take (i + 1)).flatMap f = (l.take i).flatMap f ++ f z := by
  rw [List.take_add_one, h, List.flatMap_append]
  congr 1
  show [z].flatMap f = f z
  rw [List.flatMap_cons, List.flatMap_nil, List.append_nil]
theorem strs_snoc (l : List Wd) (z : Wd) : ((l.map mkS).map V.str) ++ [V.str (mkS z)] = (((l ++ [z]).map mkS).map V.str) := by
  rw [List.map_append, List.map_append]
  rfl
theorem ne_sl : decide (V.str "short" = V.str "long") = false := by decide +kernel
section
variable {P : Program} {w : World} {K : PySem.W.Frag} {mg : Str → Option Value} {base : Heap}
abbrev nLrn : List Str := ["width", "texts", "found", "shorter", "others", "firsts", "lasts", "pieces", "text", "view", "pair"]
theorem scLrn : FnScope nLrn ((["width"] : List Str) ++ (["texts"] : List Str)) (defScope sLearned) := ⟨rfl, rfl, rfl, by decide +kernel, rfl, by decide +kernel, by decide +kernel⟩
structure TxtLn (mg : Str → Option Value) : Prop where
  tuple : mg "tuple" = none
  sorted : mg "sorted" = none
  set : mg "set" = none
  len : mg "len" = none
theorem ok_lrn {f fV : Addr} {fd fdV : FuncData} (F : Fun K "learned" "learned" sLearned f fd) (T : TxtLn mg)
    (GV : FnOk P w K mg base CX0 3 fV fdV ["width", "top", "text"] spView) (bV : Binds K fdV ["width", "top", "text"] []) (kV : PySem.W.keepIn K (.ref fV) = true) (mV : mg "view_of" = some (.ref fV)) :
    FnR P w K mg base CX0 4 f spLrn := by
  obtain ⟨oc, od, kV', doc, pm, an, cdv, ct, osl, rfl, lk, hcd⟩ := F.ex
  have hb := StX.bind_star1 (B := fun us => bindArgs (PySem.W.fnOf "learned" "learned" (defArgs sLearned) (defBody sLearned) (defScope sLearned) .none kV' doc pm an cdv ct) ⟨us, []⟩) (p1 := "width") (pv := "texts") (fun a => by rfl) (fun a r rs => by rfl)
  refine FnR.imp (StX.fn_star (ps := ["width"]) (pv := "texts") (sp := spLrn0) lk hcd scLrn StX.cxUp_none hb fun A outer s H vs Q E hr h => ?_) fun vs H Q E h => ?_
  rotate_left
  · obtain ⟨k, zs, rfl, h1, h2, h3, h4, q⟩ := h
    refine ⟨[.int k], (zs.map mkS).map .str, rfl, rfl, by rw [List.length_map, List.length_map, sizeLine_eq]; omega, fun p hp => ⟨k, zs, p, rfl, upd_same, h1, h2, h3, h4, fun v H' s' hv => ?_⟩⟩
    have s0 := same_new hp (.tup ((zs.map mkS).map V.str))
    exact q v H' (s0.trans s') (dt_new hv s0)
  obtain ⟨k, zs, p, rfl, hp, hk1, hk2, hz1, hz2, q⟩ := h
  have hu := hu_of hr
  have hr64 : (A.deeper (envOfC "learned" (defScope sLearned) s.heap.objs.size f cdv)).units + 64 < cLine := hr.units
  refine ⟨_, PSs.nox (pss_cons (ps_setLc (i := 2) (own := [("text", 8)]) (g := gName 8) (tt := tYes) rfl scLrn.nd rfl rfl (sw_true rfl rfl rfl (by decide +kernel)) (pi_list (pe_callB (cr_sortedTxAt (P := P) (w := w) rfl rfl rfl) (by rfl) T.sorted (by decide +kernel) (pa_cons (pe_callTy (cr_setTupAt (P := P) (w := w) rfl rfl rfl) (by rfl) T.set (by decide +kernel) (pa_cons (pv 1) pa_nil)) pa_nil)))
      (blkOk_by (N := nLrn) (sc := defScope sLearned) (by decide +kernel)) (fun _ _ _ _ _ => pg_name (i := 8) scLrn.nd rfl (Or.inl rfl)) (fun _ _ _ _ _ => pts_nil)
      (fun _ _ _ _ _ => by exact pe_call GV hr rfl mV kV bV .nil pass0 (pa_cons (pv 0) (pa_cons pe_int (pa_cons (pv 8) pa_nil)))))
    (pss_cons (ps_setLc (i := 3) (own := [("view", 9)]) (g := gName 9) (tt := _) rfl scLrn.nd rfl rfl (sw_true rfl rfl rfl (by decide +kernel)) (pi_list (pv 2))
      (blkOk_by (N := nLrn) (sc := defScope sLearned) (by decide +kernel)) (fun _ _ _ _ _ => pg_name (i := 9) scLrn.nd rfl (Or.inl rfl)) (fun _ _ _ _ _ => pts_one (pt_cmpR op_eq (pe_ix (ixT_at rfl) (pv 9) pe_int (fun _ _ => rfl)) pe_str (nomark _)))
      (fun _ _ _ _ _ => by exact pe_ix (ixT_at rfl) (pv 9) pe_int (fun _ _ => rfl)))
    (pss_cons (ps_setLc (i := 4) (own := [("view", 9)]) (g := gName 9) (tt := _) rfl scLrn.nd rfl rfl (sw_true rfl rfl rfl (by decide +kernel)) (pi_list (pv 2))
      (blkOk_by (N := nLrn) (sc := defScope sLearned) (by decide +kernel)) (fun _ _ _ _ _ => pg_name (i := 9) scLrn.nd rfl (Or.inl rfl)) (fun _ _ _ _ _ => pts_one (pt_cmpR op_eq (pe_ix (ixT_at rfl) (pv 9) pe_int (fun _ _ => rfl)) pe_str (nomark _)))
      (fun _ _ _ _ _ => by exact pv 9))
    (pss_cons (ps_set (i := 5) scLrn.nd rfl (Or.inl rfl) (pe_callB (cr_sortedTxAt (P := P) (w := w) rfl rfl rfl) (by rfl) T.sorted (by decide +kernel) (pa_cons (pe_callTy (cr_setListAt (P := P) (w := w) rfl rfl rfl) (by rfl) T.set (by decide +kernel) (pa_cons
      (pe_lc (own := [("view", 9)]) (g := gName 9) (tt := tYes) rfl scLrn.nd (pi_list (pv 4)) (blkOk_by (N := nLrn) (sc := defScope sLearned) (by decide +kernel)) (fun _ _ _ _ _ => pg_name (i := 9) scLrn.nd rfl (Or.inl rfl)) (fun _ _ _ _ _ => pts_nil)
        (fun _ _ _ _ _ => by exact pe_ix (ixT_at rfl) (pv 9) pe_int (fun _ _ => rfl))) pa_nil)) pa_nil)))
    (pss_cons (ps_set (i := 6) scLrn.nd rfl (Or.inl rfl) (pe_callB (cr_sortedTxAt (P := P) (w := w) rfl rfl rfl) (by rfl) T.sorted (by decide +kernel) (pa_cons (pe_callTy (cr_setListAt (P := P) (w := w) rfl rfl rfl) (by rfl) T.set (by decide +kernel) (pa_cons
      (pe_lc (own := [("view", 9)]) (g := gName 9) (tt := tYes) rfl scLrn.nd (pi_list (pv 4)) (blkOk_by (N := nLrn) (sc := defScope sLearned) (by decide +kernel)) (fun _ _ _ _ _ => pg_name (i := 9) scLrn.nd rfl (Or.inl rfl)) (fun _ _ _ _ _ => pts_nil)
        (fun _ _ _ _ _ => by exact pe_ix (ixT_at rfl) (pv 9) pe_int (fun _ _ => rfl))) pa_nil)) pa_nil)))
    (pss_cons (ps_set (i := 7) scLrn.nd rfl (Or.inl rfl) (pe_callB (cr_sortedTxAt (P := P) (w := w) rfl rfl rfl) (by rfl) T.sorted (by decide +kernel) (pa_cons (pe_callTy (cr_setListAt (P := P) (w := w) rfl rfl rfl) (by rfl) T.set (by decide +kernel) (pa_cons
      (pe_lc2 (own := [("view", 9), ("pair", 10)]) (vs1 := [10]) (g := gName 9) (tt := tYes) (g1 := gName 10) (tt1 := tYes) rfl scLrn.nd (pi_list (pv 4)) (blkOk_by (N := nLrn) (sc := defScope sLearned) (by decide +kernel)) (by decide) (fun _ _ _ _ _ => pg_name (i := 9) scLrn.nd rfl (Or.inl rfl)) (fun _ _ _ _ _ => pts_nil)
        (fun _ _ _ _ _ => by exact piT_at (K := K) rfl (pe_ix (ixT_at rfl) (pv 9) pe_int (fun _ _ => rfl))) (fun _ _ _ _ _ => pg_name (i := 10) scLrn.nd rfl (Or.inl rfl)) (fun _ _ _ _ _ => pts_nil)
        (fun _ _ _ _ _ => by exact pe_ix (ixT_at rfl) (pv 10) pe_int (fun _ _ => rfl))) pa_nil)) pa_nil)))
    (pss_one (ps_ret (pe_tup (pa_cons (pv 0) (pa_cons (pe_callTy call_tuple_of (by rfl) T.tuple (by decide +kernel) (pa_cons (pe_sortedLen (by rfl) T.sorted (by rfl) T.len hr64 (pa_cons (pv 3) pa_nil)) pa_nil))
      (pa_cons (pe_callTy call_tuple_of (by rfl) T.tuple (by decide +kernel) (pa_cons (pv 5) pa_nil)) (pa_cons (pe_callTy call_tuple_of (by rfl) T.tuple (by decide +kernel) (pa_cons (pv 6) pa_nil)) (pa_cons (pe_callTy call_tuple_of (by rfl) T.tuple (by decide +kernel) (pa_cons (pv 7) pa_nil)) pa_nil)))))))))))))
    ), ?_⟩
  have lz := asc_length_le zs
  refine ⟨_, rfl, p, zs, rfl, SqT.of hp, by omega, fun p1 l ms hp1 hpl nd h4 hm => ⟨p1, l, ms, rfl, upd_same, hpl, nd, h4, fun u hu' => ?_⟩⟩
  rw [asc_congr hm]
  have s1 := (same_new hp1 (SetTxO P w p1 l)).trans (same_new hu' (.lst (((asc zs).map mkS).map .str)))
  have eu : upd (upd H p1 (SetTxO P w p1 l)) u (.lst (((asc zs).map mkS).map .str)) u = some (.lst (((asc zs).map mkS).map .str)) := upd_same
  generalize upd (upd H p1 (SetTxO P w p1 l)) u (.lst (((asc zs).map mkS).map .str)) = H1 at s1 eu ⊢
  generalize hws : asc zs = ws at eu ⊢
  have mws : ∀ z, z ∈ ws ↔ z ∈ zs := fun z => by rw [← hws]; exact mem_asc
  have lws : ws.length ≤ 20 := by rw [← hws]; omega
  have wlen : ∀ z ∈ ws, z.length ≤ 3000 := fun z hz => Nat.le_trans (sizeW_mem ((mws z).mp hz)) hz2
  refine ⟨u, rfl, ⟨_, SqL.of eu⟩, fun D hD => ?_⟩
  refine lc_it (walk_list (xs := (ws.map mkS).map .str)) (fun i H' => ∃ xs, H' D = some (.lst xs) ∧ ViewsAt H' k xs (ws.take i) ∧ Same H1 H') ⟨[], upd_same, ⟨rfl, fun i z e => by simp at e⟩, same_new hD _⟩ (fun i H' _ ⟨_, _, _, s⟩ => SqL.of (s _ _ eu)) ?_ ?_
  · rintro i x H2 H3 hi ⟨xs, m1, m2, m3⟩ ⟨rfl, hx⟩
    obtain ⟨z, hz, rfl⟩ := str_at hx
    refine ⟨rfl, _, rfl, _, rfl, k, 1, z, rfl, hk1, hk2, by decide, wlen z (List.mem_of_getElem? hz), fun v H4 s4 hv => ?_⟩
    have e4 := s4 _ _ m1
    refine ⟨xs, e4, ?_, xs ++ [v], upd_same, ?_, fun b o e => ?_⟩
    · rw [m2.1, List.length_take, sizeLine_eq]; omega
    · rw [List.take_add_one, hz]
      exact (m2.tk (tk_same s4)).snoc (view_at hv) |>.tk (tk_put e4 _)
    · rw [upd_ne (ne_of_none e hD)]
      exact s4 _ _ (m3 b o e)
  rintro H2 ⟨xs, m1, m2, s2⟩
  rw [List.length_map, List.length_map, List.take_length] at m2
  -- short words
  refine ⟨_, rfl, D, rfl, ⟨_, SqL.of m1⟩, fun D3 hD3 => ?_⟩
  refine lc_it (walk_list (xs := xs)) (fun i H' => H' D3 = some (.lst ((((ws.take i).filter fun z => decide (z.length < k)).map mkS).map .str)) ∧ Same H2 H') ⟨upd_same, same_new hD3 _⟩ (fun i H' _ ⟨_, s⟩ => SqL.of (s _ _ m1)) ?_ ?_
  · rintro i x H3 H4 hi ⟨n1, n2⟩ ⟨rfl, hx⟩
    obtain ⟨z, hz, a, rfl, hv⟩ := m2.get hx
    rcases hv with ⟨c, e⟩ | ⟨c, c4, us, e, _⟩
    · refine ⟨rfl, _, rfl, a, _, 0, _, rfl, rfl, SqT.of (n2 _ _ e), rfl, rfl, _, rfl, ?_⟩
      refine ite2 (fun _ => ?_) (fun x => absurd (decide_eq_true rfl) x)
      refine ⟨_, rfl, a, _, 1, _, rfl, rfl, SqT.of (n2 _ _ e), rfl, _, n1, ?_, ?_, fun b o e' => ?_⟩
      · rw [List.length_map, List.length_map, sizeLine_eq]
        have := List.length_filter_le (fun z : Wd => decide (z.length < k)) (ws.take i)
        rw [List.length_take] at this
        omega
      · rw [upd_same, take_filter hz, if_pos (decide_eq_true c), strs_snoc]
      · rw [upd_ne (ne_of_none e' hD3)]
        exact n2 b o e'
    · refine ⟨rfl, _, rfl, a, _, 0, _, rfl, rfl, SqT.of (n2 _ _ e), rfl, rfl, _, rfl, ?_⟩
      refine if_fl' short_ne_long ⟨?_, n2⟩
      rw [take_filter hz, if_neg (by rw [decide_eq_true_iff]; exact c), List.append_nil]
      exact n1
  rintro H3 ⟨n1, s3⟩
  rw [m2.1, List.take_length] at n1
  have m13 := s3 _ _ m1
  have m23 := m2.tk (tk_same s3)
  -- the others
  refine ⟨_, rfl, D, rfl, ⟨_, SqL.of m13⟩, fun D4 hD4 => ?_⟩
  refine lc_it (walk_list (xs := xs)) (fun i H' => ∃ ys, H' D4 = some (.lst ys) ∧ ViewsAt H' k ys ((ws.take i).filter fun z => !decide (z.length < k)) ∧ Same H3 H') ⟨[], upd_same, ⟨rfl, fun i z e => by simp at e⟩, same_new hD4 _⟩ (fun i H' _ ⟨_, _, _, s⟩ => SqL.of (s _ _ m13)) ?_ ?_
  · rintro i x H4 H5 hi ⟨ys, n1', n2, n3⟩ ⟨rfl, hx⟩
    obtain ⟨z, hz, hv0⟩ := m23.get hx
    have hv4 := hv0.tk (tk_same n3)
    obtain ⟨a, rfl, hv⟩ := hv0
    rcases hv with ⟨c, e⟩ | ⟨c, c4, us, e, _⟩
    · refine ⟨rfl, _, rfl, a, _, 0, _, rfl, rfl, SqT.of (n3 _ _ e), rfl, rfl, _, rfl, ?_⟩
      refine if_fl' ne_sl ⟨ys, n1', ?_, n3⟩
      rw [take_filter hz, if_neg (by rw [decide_eq_true c]; decide), List.append_nil]
      exact n2
    · refine ⟨rfl, _, rfl, a, _, 0, _, rfl, rfl, SqT.of (n3 _ _ e), rfl, rfl, _, rfl, ?_⟩
      refine ite2 (fun _ => ?_) (fun x => absurd (decide_eq_true rfl) x)
      refine ⟨_, rfl, ys, n1', ?_, ys ++ [.ref a], upd_same, ?_, fun b o e' => ?_⟩
      · rw [n2.1, sizeLine_eq]
        have := List.length_filter_le (fun z : Wd => !decide (z.length < k)) (ws.take i)
        rw [List.length_take] at this
        omega
      · rw [take_filter hz, if_pos (by rw [decide_eq_false c]; rfl)]
        exact (n2.snoc hv4).tk (tk_put n1' _)
      · rw [upd_ne (ne_of_none e' hD4)]
        exact n3 b o e'
  rintro H4 ⟨ys, o1, o2, s4⟩
  rw [m2.1, List.take_length] at o2
  have n14 := s4 _ _ n1
  have s04 := ((s1.trans s2).trans s3).trans s4
  have hlo : (ws.filter fun z => !decide (z.length < k)) = longs k ws := rfl
  rw [hlo] at o2
  have ho : ys.length ≤ 20 := by
    rw [o2.1]
    exact Nat.le_trans (longs_len k ws) lws
  have hlong : ∀ z ∈ longs k ws, ¬ z.length < k := fun z hz => (mem_longs.mp hz).2
  have gl : ∀ {H' : Hp} {i : Nat} {x : V}, Same H4 H' → ys[i]? = some x → ∃ z, (longs k ws)[i]? = some z ∧ ∃ (a c : Addr) (us : List V), x = .ref a ∧ H' a = some (.tup [.str "long", .str (mkS (z.take (k - 1))), .str (mkS (z.drop (z.length + 1 - k))), .ref c]) ∧ H' c = some (.tup us) ∧ us.length = (asc (wins k z)).length ∧
      ∀ (j : Nat) (p : Wd), (asc (wins k z))[j]? = some p → ∃ (t : Addr) (n : Int), us[j]? = some (V.ref t) ∧ H' t = some (.tup [.str (mkS p), .int n]) := by
    intro H' i x s hx
    obtain ⟨z, hz, hv⟩ := (o2.tk (tk_same s)).get hx
    obtain ⟨a, rfl, hv⟩ := hv
    rcases hv with ⟨c, _⟩ | ⟨_, c4, us, e1, e2, e3, e4⟩
    · exact absurd c (hlong z (List.mem_of_getElem? hz))
    · exact ⟨z, hz, a, c4, us, rfl, e1, e2, e3, e4⟩
  have r4 : Same H4 H4 := Same.refl H4
  -- firsts
  refine ⟨_, rfl, D4, rfl, ⟨_, SqL.of (r4 _ _ o1)⟩, fun Da hDa => ?_⟩
  refine lc_it (walk_list (xs := ys)) (fun i H' => H' Da = some (.lst (((((longs k ws).take i).map (fun z => z.take (k - 1))).map mkS).map .str)) ∧ Same H4 H') ⟨upd_same, same_new hDa _⟩ (fun i H' _ ⟨_, s⟩ => SqL.of (s _ _ (r4 _ _ o1))) ?_ ?_
  · rintro i x H5 H6 hi ⟨n1, n2⟩ ⟨rfl, hx⟩
    obtain ⟨z, hz, a, c, us, rfl, e1, e2, e3, e4⟩ := gl (r4.trans n2) hx
    refine ⟨rfl, _, rfl, a, _, 1, _, rfl, rfl, SqT.of e1, rfl, _, n1, ?_, ?_, fun b o e' => ?_⟩
    · rw [List.length_map, List.length_map, List.length_map, List.length_take, sizeLine_eq]
      have := longs_len k ws
      omega
    · rw [upd_same, List.take_add_one, hz, List.map_append, List.map_append, List.map_append]
      rfl
    · rw [upd_ne (ne_of_none e' hDa)]
      exact n2 b o e'
  rintro H5 ⟨n1, n2⟩
  rw [o2.1, List.take_length] at n1
  refine ⟨Da, _, rfl, SqL.of n1, by rw [List.length_map]; exact Nat.le_trans (longs_len k ws) (by omega), fun p2 l2 ms2 hp2 hpl2 nd2 h42 hm2 => ⟨p2, l2, ms2, rfl, upd_same, hpl2, nd2, h42, fun ua hua => ?_⟩⟩
  rw [asc_congr hm2]
  have t1 := ((n2.trans (same_new hp2 (SetTxO P w p2 l2))).trans (same_new hua (.lst (((asc ((longs k ws).map (fun z => z.take (k - 1)))).map mkS).map .str))))
  have t2 : upd (upd H5 p2 (SetTxO P w p2 l2)) ua (.lst (((asc ((longs k ws).map (fun z => z.take (k - 1)))).map mkS).map .str)) ua = some (.lst (((asc ((longs k ws).map (fun z => z.take (k - 1)))).map mkS).map .str)) := upd_same
  generalize upd (upd H5 p2 (SetTxO P w p2 l2)) ua (.lst (((asc ((longs k ws).map (fun z => z.take (k - 1)))).map mkS).map .str)) = HA at t1 t2 ⊢
  have eua := t2
  have sHA := r4.trans t1
  clear t1 t2 n1 n2 hm2 hua hp2 hpl2
  -- lasts
  refine ⟨_, rfl, D4, rfl, ⟨_, SqL.of (sHA _ _ o1)⟩, fun Db hDb => ?_⟩
  refine lc_it (walk_list (xs := ys)) (fun i H' => H' Db = some (.lst (((((longs k ws).take i).map (fun z => z.drop (z.length + 1 - k))).map mkS).map .str)) ∧ Same HA H') ⟨upd_same, same_new hDb _⟩ (fun i H' _ ⟨_, s⟩ => SqL.of (s _ _ (sHA _ _ o1))) ?_ ?_
  · rintro i x H5 H6 hi ⟨n1, n2⟩ ⟨rfl, hx⟩
    obtain ⟨z, hz, a, c, us, rfl, e1, e2, e3, e4⟩ := gl (sHA.trans n2) hx
    refine ⟨rfl, _, rfl, a, _, 2, _, rfl, rfl, SqT.of e1, rfl, _, n1, ?_, ?_, fun b o e' => ?_⟩
    · rw [List.length_map, List.length_map, List.length_map, List.length_take, sizeLine_eq]
      have := longs_len k ws
      omega
    · rw [upd_same, List.take_add_one, hz, List.map_append, List.map_append, List.map_append]
      rfl
    · rw [upd_ne (ne_of_none e' hDb)]
      exact n2 b o e'
  rintro H5 ⟨n1, n2⟩
  rw [o2.1, List.take_length] at n1
  refine ⟨Db, _, rfl, SqL.of n1, by rw [List.length_map]; exact Nat.le_trans (longs_len k ws) (by omega), fun p2 l2 ms2 hp2 hpl2 nd2 h42 hm2 => ⟨p2, l2, ms2, rfl, upd_same, hpl2, nd2, h42, fun ub hub => ?_⟩⟩
  rw [asc_congr hm2]
  have t1 := ((n2.trans (same_new hp2 (SetTxO P w p2 l2))).trans (same_new hub (.lst (((asc ((longs k ws).map (fun z => z.drop (z.length + 1 - k)))).map mkS).map .str))))
  have t2 : upd (upd H5 p2 (SetTxO P w p2 l2)) ub (.lst (((asc ((longs k ws).map (fun z => z.drop (z.length + 1 - k)))).map mkS).map .str)) ub = some (.lst (((asc ((longs k ws).map (fun z => z.drop (z.length + 1 - k)))).map mkS).map .str)) := upd_same
  generalize upd (upd H5 p2 (SetTxO P w p2 l2)) ub (.lst (((asc ((longs k ws).map (fun z => z.drop (z.length + 1 - k)))).map mkS).map .str)) = HB at t1 t2 ⊢
  have eub := t2
  have sAB := t1
  have sHB := sHA.trans t1
  clear t2 n1 n2 hm2 hub hp2 hpl2
  -- pieces
  refine ⟨_, rfl, D4, rfl, ⟨_, SqL.of (sHB _ _ o1)⟩, fun Dc hDc => ?_⟩
  have nc : (longs k ws).flatMap (fun z => asc (wins k z)) = (longs k ws).flatMap (fun z => asc (wins k z)) := rfl
  have big : ((longs k ws).flatMap fun z => asc (wins k z)).length ≤ 3000 := by
    refine Nat.le_trans (flat_few k _) (Nat.le_trans (wins_few hk1 _) (Nat.le_trans (sizeW_filter _ ws) ?_))
    rw [← hws]
    exact Nat.le_trans (sizeW_asc zs) hz2
  have pre : ∀ (i : Nat) (z : Wd) (j : Nat), (longs k ws)[i]? = some z → j < (asc (wins k z)).length → (((longs k ws).take i).flatMap (fun z => asc (wins k z)) ++ (asc (wins k z)).take j).length < 3000 := by
    intro i z j hz hj
    have e : ((longs k ws).take i).flatMap (fun z => asc (wins k z)) ++ asc (wins k z) = ((longs k ws).take (i + 1)).flatMap (fun z => asc (wins k z)) := (flat_take hz).symm
    have e2 : (longs k ws).flatMap (fun z => asc (wins k z)) = ((longs k ws).take (i + 1)).flatMap (fun z => asc (wins k z)) ++ ((longs k ws).drop (i + 1)).flatMap (fun z => asc (wins k z)) := by
      rw [← List.flatMap_append, List.take_append_drop]
    rw [e2, ← e, List.length_append, List.length_append] at big
    rw [List.length_append, List.length_take]
    omega
  refine walk_gen (walk_list (xs := ys)) (fun i H' => H' Dc = some (.lst (((((longs k ws).take i).flatMap fun z => asc (wins k z)).map mkS).map .str)) ∧ Same HB H') ⟨upd_same, same_new hDc _⟩ (fun i H' _ ⟨_, s⟩ => SqL.of (s _ _ (sHB _ _ o1))) ?_ ?_
  · rintro i x H5 H6 hi ⟨n1, n2⟩ ⟨rfl, hx⟩
    obtain ⟨z, hz, a, c, us, rfl, e1, e2, e3, e4⟩ := gl (sHB.trans n2) hx
    refine ⟨rfl, _, rfl, a, _, 3, _, rfl, rfl, SqT.of e1, rfl, c, rfl, ⟨us, SqT.of e2⟩, ?_⟩
    refine walk_gen (walk_tup (xs := us)) (fun j H' => H' Dc = some (.lst (((((longs k ws).take i).flatMap (fun z => asc (wins k z)) ++ (asc (wins k z)).take j).map mkS).map .str)) ∧ Same HB H' ∧ TK H6 H') ⟨by rw [List.take_zero, List.append_nil]; exact n1, n2, fun _ _ e => e⟩ (fun j H' _ ⟨_, _, s⟩ => SqT.of (s _ _ e2)) ?_ ?_
    · rintro j x H7 H8 hj ⟨q1, q2, q3⟩ ⟨rfl, hx⟩
      have hj2 : j < (asc (wins k z)).length := by rw [← e3]; exact hj
      have hp := List.getElem?_eq_getElem hj2
      obtain ⟨t, n, hu2, ht⟩ := e4 j _ hp
      rw [hu2] at hx
      obtain rfl := Option.some.inj hx
      refine ⟨rfl, _, rfl, t, _, 0, _, rfl, rfl, SqT.of (q3 _ _ ht), rfl, _, q1, ?_, ?_, fun b o e' => ?_, fun b ys' e' => tk_put q1 _ b ys' (q3 b ys' e')⟩
      · rw [List.length_map, List.length_map, sizeLine_eq]
        have := pre i z j hz hj2
        omega
      · rw [upd_same, List.take_add_one, hp, strs_snoc, List.append_assoc]
        rfl
      · rw [upd_ne (ne_of_none e' hDc)]
        exact q2 b o e'
    · rintro H7 ⟨q1, q2, _⟩
      rw [e3, List.take_length, ← flat_take (f := fun z => asc (wins k z)) hz] at q1
      exact ⟨q1, q2⟩
  rintro H5 ⟨n1, n2⟩
  rw [o2.1, List.take_length] at n1
  refine ⟨Dc, _, rfl, SqL.of n1, by omega, fun p2 l2 ms2 hp2 hpl2 nd2 h42 hm2 => ⟨p2, l2, ms2, rfl, upd_same, hpl2, nd2, h42, fun uc huc => ?_⟩⟩
  have hpc : asc ms2 = pcs k ws := asc_congr fun x => by
    rw [hm2 x, List.mem_flatMap, List.mem_flatMap]
    exact ⟨fun ⟨z, a, b⟩ => ⟨z, a, mem_asc.mp b⟩, fun ⟨z, a, b⟩ => ⟨z, a, mem_asc.mpr b⟩⟩
  rw [hpc]
  have t1 := ((n2.trans (same_new hp2 (SetTxO P w p2 l2))).trans (same_new huc (.lst (((pcs k ws).map mkS).map .str))))
  have euc : upd (upd H5 p2 (SetTxO P w p2 l2)) uc (.lst (((pcs k ws).map mkS).map .str)) uc = some (.lst (((pcs k ws).map mkS).map .str)) := upd_same
  generalize upd (upd H5 p2 (SetTxO P w p2 l2)) uc (.lst (((pcs k ws).map mkS).map .str)) = HC at t1 euc ⊢
  have eub := t1 _ _ eub
  have eua := t1 _ _ (sAB _ _ eua)
  have sHC := sHB.trans t1
  have s0C := s04.trans sHC
  -- the answer
  have hsl : (ws.filter fun z => decide (z.length < k)).length ≤ 20 := Nat.le_trans (List.length_filter_le _ _) lws
  refine ⟨_, rfl, _, rfl, D3, (ws.filter fun z => decide (z.length < k)), rfl, SqL.of (sHC _ _ n14), by omega, fun z hz => ?_, fun q1 hq1 => ⟨q1, _, rfl, .inl ⟨SqL.of upd_same, fun t1 ht1 => ?_⟩⟩⟩
  · have := wlen z (List.mem_filter.mp hz).1
    omega
  have esh : (ws.filter fun z => decide (z.length < k)).mergeSort leL = shr k zs := by
    rw [← hws]
    rfl
  have efi : asc ((longs k ws).map fun z => z.take (k - 1)) = fis k zs := fis_congr (l := ws) mws
  have ela : asc ((longs k ws).map fun z => z.drop (z.length + 1 - k)) = las k zs := las_congr (l := ws) mws
  have epc : pcs k ws = pcs k zs := pcs_congr mws
  rw [esh] at ht1 ⊢
  rw [efi] at eua
  rw [ela] at eub
  rw [epc] at euc
  have a1 := (same_new hq1 (.lst (((shr k zs).map mkS).map .str))).trans (same_new ht1 (.tup (((shr k zs).map mkS).map .str)))
  have b1 : upd (upd HC q1 (.lst (((shr k zs).map mkS).map V.str))) t1 (.tup (((shr k zs).map mkS).map V.str)) t1 = some (.tup (((shr k zs).map mkS).map V.str)) := upd_same
  generalize upd (upd HC q1 (.lst (((shr k zs).map mkS).map V.str))) t1 (.tup (((shr k zs).map mkS).map V.str)) = HD at a1 b1 ⊢
  have n1' : H t1 = none := s0C.free ((same_new hq1 _).free ht1)
  refine ⟨_, rfl, ua, _, rfl, .inl ⟨SqL.of (a1 _ _ eua), fun t2 ht2 => ⟨_, rfl, ub, _, rfl, .inl ⟨SqL.of ((same_new ht2 _) _ _ (a1 _ _ eub)), fun t3 ht3 => ⟨_, rfl, uc, _, rfl, .inl ⟨SqL.of ((same_new ht3 _) _ _ ((same_new ht2 _) _ _ (a1 _ _ euc))), fun t4 ht4 => ⟨(by show 5 ≤ sizeLine; decide), fun tf hf => ?_⟩⟩⟩⟩⟩⟩⟩
  have a2 := same_new ht2 (.tup (((fis k zs).map mkS).map V.str))
  have a3 := same_new ht3 (.tup (((las k zs).map mkS).map V.str))
  have a4 := same_new ht4 (.tup (((pcs k zs).map mkS).map V.str))
  have a5 := same_new hf (.tup [.int k, .ref t1, .ref t2, .ref t3, .ref t4])
  have s0D := s0C.trans a1
  refine q _ _ ((((s0D.trans a2).trans a3).trans a4).trans a5) ?_
  have f2 : H t2 = none := s0D.free ht2
  have f3 : H t3 = none := (s0D.trans a2).free ht3
  have f4 : H t4 = none := ((s0D.trans a2).trans a3).free ht4
  have ff : H tf = none := (((s0D.trans a2).trans a3).trans a4).free hf
  refine .tup upd_same ff (.cons (.flat (show FlatD (.int k) (.int k) from rfl)) (.cons (dt_ofWords (a5 _ _ (a4 _ _ (a3 _ _ (a2 _ _ b1)))) n1') (.cons (dt_ofWords (a5 _ _ (a4 _ _ (a3 _ _ upd_same))) f2) (.cons (dt_ofWords (a5 _ _ (a4 _ _ upd_same)) f3) (.cons (dt_ofWords (a5 _ _ upd_same) f4) .nil)))))
end
end Vf

set_option Elab.async false
set_option linter.all false
set_option maxRecDepth 100000
set_option maxHeartbeats 4000000
namespace Vf
open PySem PySem.Spec PyProof.Rows L2 L2.Vx Vs Vm
abbrev sGath : Stmt := top 23
/-! ### the law's own gathering -/
def tT : Wd → V := fun _ => .bl true
theorem put_word {H : Hp} {d : Addr} {ks : List Wd} {p : Wd} (e : H d = some (.dK (entK tT ks))) (hl : ks.length < sizeLine) : DPut H d (.str (mkS p)) (.bl true) (upd H d (.dK (entK tT (more ks p)))) := by
  have z := DPut.k (k := kS p) (v := V.bl true) e (by rw [entK_length]; exact hl)
  rw [putK_ent, entK_congr (g := tT) (fun q _ => by unfold at'; split <;> rfl)] at z
  exact z
theorem leP_tot : PySem.W.TotalLe leP := ⟨fun a b c h1 h2 => by
    unfold leP at h1 h2 ⊢
    rw [Bool.not_eq_true'] at h1 h2 ⊢
    refine Bool.eq_false_iff.mpr fun h => ?_
    have g1 : ¬ Vd.ltP b a = true := Bool.eq_false_iff.mp h1
    have g2 : ¬ Vd.ltP c b = true := Bool.eq_false_iff.mp h2
    rw [ltP_iff] at g1 g2
    rcases ltP_iff.mp h with x | ⟨x, y⟩
    · have : ¬ b.length < a.length := fun z => g1 (.inl z)
      have : ¬ c.length < b.length := fun z => g2 (.inl z)
      omega
    · have n1 : ¬ b.length < a.length := fun z => g1 (.inl z)
      have n2 : ¬ c.length < b.length := fun z => g2 (.inl z)
      have y1 : ¬ b < a := fun z => g1 (.inr ⟨by omega, z⟩)
      have y2 : ¬ c < b := fun z => g2 (.inr ⟨by omega, z⟩)
      exact le_tr y1 y2 y, fun a b => by
    unfold leP
    rw [Bool.not_eq_true', Bool.not_eq_true']
    by_cases h : Vd.ltP b a = true
    · exact .inr (Bool.eq_false_iff.mpr (ltP_as h))
    · exact .inl (Bool.eq_false_iff.mpr h)⟩
theorem sort_shr {k : Nat} {s l : List Wd} (nd : s.Nodup) (m : ∀ x, x ∈ s ↔ x ∈ l ∧ x.length < k) : s.mergeSort leP = shr k l := by
  refine upP_uniq ?_ (upP_shr k l) fun x => ?_
  · have p := PySem.W.sort_pairwise leP_tot s
    have n : (s.mergeSort leP).Nodup := (List.mergeSort_perm s leP).nodup_iff.mpr nd
    refine (p.and n).imp fun {a b} h => ?_
    have g : ¬ Vd.ltP b a = true := by
      have := h.1
      unfold leP at this
      rw [Bool.not_eq_true'] at this
      exact Bool.eq_false_iff.mp this
    rw [ltP_iff] at g ⊢
    by_cases e : a.length = b.length
    · refine .inr ⟨e, ?_⟩
      by_cases c : a < b
      · exact c
      · exact absurd (lt_tri c fun z => g (.inr ⟨e.symm, z⟩)) h.2
    · refine .inl ?_
      have : ¬ b.length < a.length := fun z => g (.inl z)
      omega
  · rw [(List.mergeSort_perm s leP).mem_iff, m x, mem_shr]
/-- the four dicts behind the words l -/
def Bag (H : Hp) (d1 d2 d3 d4 : Addr) (k : Nat) (l : List Wd) : Prop := ∃ s h t p : List Wd,
  (H d1 = some (.dT (entL s)) ∧ s.Nodup ∧ s.length ≤ l.length ∧ ∀ x, x ∈ s ↔ x ∈ l ∧ x.length < k) ∧
  (H d2 = some (.dK (entK tT h)) ∧ h.Nodup ∧ h.length ≤ l.length ∧ ∀ x, x ∈ h ↔ ∃ z ∈ l, ¬ z.length < k ∧ z.take (k - 1) = x) ∧
  (H d3 = some (.dK (entK tT t)) ∧ t.Nodup ∧ t.length ≤ l.length ∧ ∀ x, x ∈ t ↔ ∃ z ∈ l, ¬ z.length < k ∧ z.drop (z.length + 1 - k) = x) ∧
  (H d4 = some (.dK (entK tT p)) ∧ p.Nodup ∧ p.length ≤ sizeW l ∧ ∀ x, x ∈ p ↔ ∃ z ∈ l, ¬ z.length < k ∧ x ∈ wins k z)
theorem ex_snoc {l : List Wd} {z : Wd} {A : Wd → Prop} (h : A z) : (∃ y ∈ l ++ [z], A y) ↔ True := ⟨fun _ => trivial, fun _ => ⟨z, by simp, h⟩⟩
theorem ex_app {l : List Wd} {z : Wd} {A : Wd → Prop} : (∃ y ∈ l ++ [z], A y) ↔ (∃ y ∈ l, A y) ∨ A z := by
  constructor
  · rintro ⟨y, hy, a⟩
    rcases List.mem_append.mp hy with h | h
    · exact .inl ⟨y, h, a⟩
    · rw [List.mem_singleton.mp h] at a
      exact .inr a
  · rintro (⟨y, hy, a⟩ | a)
    · exact ⟨y, List.mem_append_left _ hy, a⟩
    · exact ⟨z, by simp, a⟩
theorem each_at {α β : Type} {R : α → β → Prop} : ∀ {as : List α} {bs : List β}, PySem.W.EachIs R as bs → ∀ {i : Nat} {a : α}, as[i]? = some a → ∃ b, bs[i]? = some b ∧ R a b
  | _, _, .nil, i, a, e => by simp at e
  | _, _, .cons (b := b) h r, 0, a, e => ⟨b, rfl, (Option.some.inj e) ▸ h⟩
  | _, _, .cons h r, i + 1, a, e => each_at r (i := i) e
def spGath : Sp := fun vs H Q _ => ∃ (k : Nat) (a : Addr) (zs : List Wd), vs = [.int k, .ref a] ∧ H a = some (.lst ((zs.map mkS).map .str)) ∧ 1 ≤ k ∧ k ≤ 1000 ∧ zs.length ≤ 20 ∧ sizeW zs ≤ 3000 ∧ ∀ v H', Same H H' → Dt H' (New H) v (lrnD k zs) → Q v H'
structure TxtG (mg : Str → Option Value) : Prop extends TxtLn mg where
  range : mg "range" = none
section
variable {P : Program} {w : World} {K : PySem.W.Frag} {mg : Str → Option Value} {base : Heap}
abbrev nGath : List Str := ["_law_wide", "_law_some", "_law_small", "_law_heads", "_law_tails", "_law_parts", "_law_word_here", "_law_k", "_law_found", "_law_pair"]
theorem scGath : FnScope nGath ["_law_wide", "_law_some"] (defScope sGath) := ⟨rfl, rfl, rfl, by decide +kernel, rfl, by decide +kernel, by decide +kernel⟩
theorem ok_gath {f : Addr} {fd : FuncData} (F : Fun K "_law_gathered" "_law_gathered" sGath f fd) (T : TxtG mg) : FnOk P w K mg base CX0 1 f fd ["_law_wide", "_law_some"] spGath := by
  refine F.ok scGath (fun vs H Q E h => ?_) (fun cdv A outer s H vs Q E hr h => ?_)
  · obtain ⟨k, a, zs, rfl, _⟩ := h
    rfl
  obtain ⟨k, a, zs, rfl, ha, hk1, hk2, hz1, hz2, q⟩ := h
  have hu := hu_of hr
  refine ⟨_, pss_cons (ps_asg (pe_tup (pa_cons pe_dnewT (pa_cons pe_dnewK (pa_cons pe_dnewK (pa_cons pe_dnewK pa_nil))))) (pg_tup rfl (pgs_cons (pg_name (i := 2) scGath.nd rfl (Or.inl rfl)) (pgs_cons (pg_name (i := 3) scGath.nd rfl (Or.inl rfl)) (pgs_cons (pg_name (i := 4) scGath.nd rfl (Or.inl rfl)) (pgs_cons (pg_name (i := 5) scGath.nd rfl (Or.inl rfl)) pgs_nil))))))
    (pss_cons (ps_for PassesOwn.never rfl (pi_list (pv 1)) (pg_name (i := 6) scGath.nd rfl (Or.inl rfl))
      (pss_one (ps_if (pt_cmpR op_lt (pe_callB call_len_str (by rfl) T.len PySem.boot_len (pa_cons (pv 6) pa_nil)) (pv 0) (nomark _))
        (pss_one (ps_dput hu (pv 2) (pe_tup (pa_cons (pe_callB call_len_str (by rfl) T.len PySem.boot_len (pa_cons (pv 6) pa_nil)) (pa_cons (pv 6) pa_nil))) pe_bl rfl))
        (pss_cons (ps_dput hu (pv 3) (pe_slice sl_str (pv 6) po_none (po_some (pe_op op_sub (pv 0) pe_int))) pe_bl rfl)
        (pss_cons (ps_dput hu (pv 4) (pe_slice sl_str (pv 6) (po_some (pe_op op_add (pe_op op_sub (pe_callB call_len_str (by rfl) T.len PySem.boot_len (pa_cons (pv 6) pa_nil)) (pv 0)) pe_int)) po_none) pe_bl rfl)
        (pss_one (ps_for PassesOwn.never rfl (pi_range1 rfl T.range (pa_cons (pe_op op_add (pe_op op_sub (pe_callB call_len_str (by rfl) T.len PySem.boot_len (pa_cons (pv 6) pa_nil)) (pv 0)) pe_int) pa_nil)) (pg_name (i := 7) scGath.nd rfl (Or.inl rfl))
          (pss_one (ps_dput hu (pv 5) (pe_slice sl_str (pv 6) (po_some (pv 7)) (po_some (pe_op op_add (pv 7) (pv 0)))) pe_bl rfl)))))))))
    (pss_cons (ps_set (i := 8) scGath.nd rfl (Or.inl rfl) (pe_tup (pa_cons (pv 0) (pa_cons (pe_callTy call_tuple_of (by rfl) T.tuple (by decide +kernel) (pa_cons (pe_lc (own := [("_law_pair", 9)]) (g := gName 9) (tt := tYes) rfl scGath.nd
        (pi_list (pe_callB (cr_sortedDL rfl hr.units) (by rfl) T.sorted (by decide +kernel) (pa_cons (pv 2) pa_nil))) (blkOk_by (N := nGath) (sc := defScope sGath) (by decide +kernel)) (fun _ _ _ _ _ => pg_name (i := 9) scGath.nd rfl (Or.inl rfl)) (fun _ _ _ _ _ => pts_nil)
        (fun _ _ _ _ _ => by exact pe_ix (ixT_at rfl) (pv 9) pe_int (fun _ _ => rfl))) pa_nil)) pa_nil))))
    (pss_one (ps_ret (pe_op op_catT (pv 8) (pe_tup (pa_cons (pe_callTy call_tuple_of (by rfl) T.tuple (by decide +kernel) (pa_cons (pe_callB (cr_sortedDK rfl) (by rfl) T.sorted (by decide +kernel) (pa_cons (pv 3) pa_nil)) pa_nil))
      (pa_cons (pe_callTy call_tuple_of (by rfl) T.tuple (by decide +kernel) (pa_cons (pe_callB (cr_sortedDK rfl) (by rfl) T.sorted (by decide +kernel) (pa_cons (pv 4) pa_nil)) pa_nil)) (pa_cons (pe_callTy call_tuple_of (by rfl) T.tuple (by decide +kernel) (pa_cons (pe_callB (cr_sortedDK rfl) (by rfl) T.sorted (by decide +kernel) (pa_cons (pv 5) pa_nil)) pa_nil)) pa_nil))))))))), ?_⟩
  refine fun d1 hd1 d2 hd2 d3 hd3 d4 hd4 => ⟨(by show 4 ≤ sizeLine; decide), fun t ht => ?_⟩
  have b1 := same_new hd1 (.dT [])
  have b2 := b1.trans (same_new hd2 (.dK []))
  have b3 := b2.trans (same_new hd3 (.dK []))
  have b4 := b3.trans (same_new hd4 (.dK []))
  have b5 := b4.trans (same_new ht (.tup [.ref d1, .ref d2, .ref d3, .ref d4]))
  have n1 : H d1 = none := hd1
  have n2 : H d2 = none := b1.free hd2
  have n3 : H d3 = none := b2.free hd3
  have n4 : H d4 = none := b3.free hd4
  have c1 : upd H d1 (.dT []) d1 = some (.dT []) := upd_same
  have c2 := same_new hd2 (.dK []) _ _ c1
  have x12 : d1 ≠ d2 := ne_of_none c1 hd2
  have x13 : d1 ≠ d3 := ne_of_none c2 hd3
  have c3 := same_new hd3 (.dK []) _ _ c2
  have x14 : d1 ≠ d4 := ne_of_none c3 hd4
  have e2 : upd (upd H d1 (.dT [])) d2 (.dK []) d2 = some (.dK []) := upd_same
  have x23 : d2 ≠ d3 := ne_of_none e2 hd3
  have e3 := same_new hd3 (.dK []) _ _ e2
  have x24 : d2 ≠ d4 := ne_of_none e3 hd4
  have f3 : upd (upd (upd H d1 (.dT [])) d2 (.dK [])) d3 (.dK []) d3 = some (.dK []) := upd_same
  have x34 : d3 ≠ d4 := ne_of_none f3 hd4
  have st := same_new ht (.tup [.ref d1, .ref d2, .ref d3, .ref d4])
  have s4 := same_new hd4 (.dK [])
  have g1 := st _ _ (s4 _ _ c3)
  have g2 := st _ _ (s4 _ _ e3)
  have g3 := st _ _ (s4 _ _ f3)
  have g4 := st _ _ (show upd (upd (upd (upd H d1 (.dT [])) d2 (.dK [])) d3 (.dK [])) d4 (.dK []) d4 = some (.dK []) from upd_same)
  refine ⟨t, _, rfl, SqT.of upd_same, rfl, _, _, rfl, _, _, rfl, _, _, rfl, _, _, rfl, rfl, ?_⟩
  generalize upd (upd (upd (upd (upd H d1 (.dT [])) d2 (.dK [])) d3 (.dK [])) d4 (.dK [])) t (.tup [.ref d1, .ref d2, .ref d3, .ref d4]) = H1 at b5 g1 g2 g3 g4 ⊢
  refine ⟨_, rfl, a, rfl, ⟨_, SqL.of (b5 _ _ ha)⟩, for_list (K := K) (a := a) (xs := (zs.map mkS).map .str) (fun i σ H' => ∃ v6 v7, σ = [some (.int k), some (.ref a), some (.ref d1), some (.ref d2), some (.ref d3), some (.ref d4), v6, v7, none, none] ∧ Bag H' d1 d2 d3 d4 k (zs.take i) ∧ Same H H')
    ⟨none, none, rfl, ⟨[], [], [], [], ⟨g1, List.nodup_nil, Nat.le_refl _, fun x => by simp⟩, ⟨g2, List.nodup_nil, Nat.le_refl _, fun x => by simp⟩, ⟨g3, List.nodup_nil, Nat.le_refl _, fun x => by simp⟩, ⟨g4, List.nodup_nil, Nat.le_refl _, fun x => by simp⟩⟩, b5⟩ (fun i σ H' _ ⟨_, _, _, _, s⟩ => SqL.of (s _ _ ha)) ?_ ?_⟩
  · rintro i x σ H2 hi ⟨v6, v7, rfl, ⟨S, Hd, Tl, Pc, ⟨a1, a2, a3, a4⟩, ⟨h1, h2, h3, h4⟩, ⟨t1, t2, t3, t4⟩, ⟨p1, p2, p3, p4⟩⟩, s2⟩
    obtain ⟨z, hz, rfl⟩ := str_at hi
    have hlz : (mkS z).length = z.length := mkS_length z
    have hzm : z ∈ zs := List.mem_of_getElem? hz
    have hzl : z.length ≤ 3000 := Nat.le_trans (sizeW_mem hzm) hz2
    have hz16 : (mkS z).length ≤ sizeLine := by rw [hlz, sizeLine_eq]; omega
    have hil : i < zs.length := (List.getElem?_eq_some_iff.mp hz).1
    have et : zs.take (i + 1) = zs.take i ++ [z] := by rw [List.take_add_one, hz]; rfl
    have lt : (zs.take i).length ≤ 20 := by rw [List.length_take]; omega
    have sz : sizeW (zs.take (i + 1)) ≤ 3000 := by
      have e : zs = zs.take (i + 1) ++ zs.drop (i + 1) := (List.take_append_drop ..).symm
      have := sizeW_app (zs.take (i + 1)) (zs.drop (i + 1))
      rw [← e] at this
      omega
    have sz1 : sizeW (zs.take (i + 1)) = sizeW (zs.take i) + z.length := by
      rw [et, sizeW_app]
      rfl
    rw [et]
    refine ⟨_, rfl, _, rfl, hz16, _, rfl, _, _, rfl, rfl, _, rfl, ?_⟩
    refine ite2 (fun c => ?_) (fun c => ?_)
    · have c' : z.length < k := by have := of_decide_eq_true c; rw [hlz] at this; omega
      refine ⟨_, rfl, _, rfl, _, rfl, hz16, _, rfl, (by show 2 ≤ sizeLine; decide), fun u hu' => ?_⟩
      have su := same_new hu' (.tup [.int ((mkS z).length : Nat), .str (mkS z)])
      have y1 := su _ _ a1
      refine ⟨d1, _, rfl, put_lenText (p := z) y1 (by rw [upd_same, hlz]) (by rw [sizeLine_eq]; omega), ?_⟩
      have o : ∀ b, b ≠ d1 → ∀ u', H2 b = some u' → upd (upd H2 u (.tup [.int ((mkS z).length : Nat), .str (mkS z)])) d1 (.dT (entL (more S z))) b = some u' := fun b hb u' e => by
        rw [upd_ne hb]
        exact su _ _ e
      refine ⟨_, _, rfl, ⟨more S z, Hd, Tl, Pc, ⟨upd_same, more_nodup a2 z, ?_, fun x => ?_⟩, ⟨o _ x12.symm _ h1, h2, ?_, fun x => ?_⟩, ⟨o _ x13.symm _ t1, t2, ?_, fun x => ?_⟩, ⟨o _ x14.symm _ p1, p2, ?_, fun x => ?_⟩⟩, fun b u' e => ?_⟩
      · have := more_length S z
        rw [List.length_append]
        show _ ≤ _ + 1
        omega
      · rw [mem_more, a4 x, List.mem_append, List.mem_singleton]
        constructor
        · rintro (⟨x1, x2⟩ | rfl)
          · exact ⟨.inl x1, x2⟩
          · exact ⟨.inr rfl, c'⟩
        · rintro ⟨x1 | x1, x2⟩
          · exact .inl ⟨x1, x2⟩
          · exact .inr x1
      · rw [List.length_append]; omega
      · rw [h4 x, ex_app]
        exact ⟨.inl, fun h => h.elim id fun ⟨z1, _⟩ => absurd c' z1⟩
      · rw [List.length_append]; omega
      · rw [t4 x, ex_app]
        exact ⟨.inl, fun h => h.elim id fun ⟨z1, _⟩ => absurd c' z1⟩
      · rw [sizeW_app]; omega
      · rw [p4 x, ex_app]
        exact ⟨.inl, fun h => h.elim id fun ⟨z1, _⟩ => absurd c' z1⟩
      · rw [upd_ne (ne_of_none e n1)]
        exact su _ _ (s2 b u' e)
    · have c' : ¬ z.length < k := fun x => c (decide_eq_true (by rw [hlz]; omega))
      have k1 : (k : Int) - 1 = ((k - 1 : Nat) : Int) := by omega
      have k2 : (((mkS z).length : Nat) : Int) - k + 1 = ((z.length + 1 - k : Nat) : Int) := by rw [hlz]; omega
      refine ⟨_, rfl, _, rfl, _, rfl, _, _, rfl, rfl, _, rfl, _, rfl, hz16, ?_⟩
      rw [k1, cut_head]
      refine ⟨d2, _, rfl, put_word h1 (by rw [sizeLine_eq]; omega), ?_⟩
      have o2 : ∀ b, b ≠ d2 → ∀ u', H2 b = some u' → upd H2 d2 (.dK (entK tT (more Hd (z.take (k - 1))))) b = some u' := fun b hb u' e => by
        rw [upd_ne hb]
        exact e
      have y2 : upd H2 d2 (.dK (entK tT (more Hd (z.take (k - 1))))) d2 = _ := upd_same
      have y1 := o2 _ x12 _ a1
      have y3 := o2 _ x23.symm _ t1
      have y4 := o2 _ x24.symm _ p1
      have sy : Same H (upd H2 d2 (.dK (entK tT (more Hd (z.take (k - 1)))))) := fun b u' e => by
        rw [upd_ne (ne_of_none e n2)]
        exact s2 b u' e
      generalize upd H2 d2 (.dK (entK tT (more Hd (z.take (k - 1))))) = H3 at y1 y2 y3 y4 sy ⊢
      refine ⟨_, rfl, _, rfl, _, rfl, _, rfl, hz16, _, rfl, _, _, rfl, rfl, _, _, rfl, rfl, _, rfl, _, rfl, hz16, ?_⟩
      rw [k2, cut_tail (by omega)]
      refine ⟨d3, _, rfl, put_word y3 (by rw [sizeLine_eq]; omega), ?_⟩
      have w3 : upd H3 d3 (.dK (entK tT (more Tl (z.drop (z.length + 1 - k))))) d3 = _ := upd_same
      have o3 : ∀ b, b ≠ d3 → ∀ u', H3 b = some u' → upd H3 d3 (.dK (entK tT (more Tl (z.drop (z.length + 1 - k))))) b = some u' := fun b hb u' e => by
        rw [upd_ne hb]
        exact e
      have w1 := o3 _ x13 _ y1
      have w2 := o3 _ x23 _ y2
      have w4 := o3 _ x34.symm _ y4
      have sw : Same H (upd H3 d3 (.dK (entK tT (more Tl (z.drop (z.length + 1 - k)))))) := fun b u' e => by
        rw [upd_ne (ne_of_none e n3)]
        exact sy b u' e
      generalize upd H3 d3 (.dK (entK tT (more Tl (z.drop (z.length + 1 - k))))) = H4 at w1 w2 w3 w4 sw ⊢
      have hn : ((((mkS z).length : Nat) : Int) - k + 1).toNat = z.length + 1 - k := by rw [hlz]; omega
      refine ⟨_, rfl, _, rfl, hz16, _, rfl, _, _, rfl, rfl, _, _, rfl, rfl, _, rfl, by rw [hlz]; omega, by rw [hlz]; omega, ?_⟩
      rw [hn]
      refine for_range (lo := 0) (n := z.length + 1 - k) (fun j σ H' => ∃ v7 p', σ = [some (.int k), some (.ref a), some (.ref d1), some (.ref d2), some (.ref d3), some (.ref d4), some (.str (mkS z)), v7, none, none] ∧ H' d1 = some (.dT (entL S)) ∧ H' d2 = some (.dK (entK tT (more Hd (z.take (k - 1))))) ∧ H' d3 = some (.dK (entK tT (more Tl (z.drop (z.length + 1 - k))))) ∧
          (H' d4 = some (.dK (entK tT p')) ∧ p'.Nodup ∧ p'.length ≤ sizeW (zs.take i) + j ∧ ∀ x, x ∈ p' ↔ (∃ z ∈ zs.take i, ¬ z.length < k ∧ x ∈ wins k z) ∨ x ∈ (wins k z).take j) ∧ Same H H')
        ⟨v7, Pc, rfl, w1, w2, w3, ⟨w4, p2, p3, fun x => by rw [p4 x]; simp⟩, sw⟩ ?_ ?_
      · rintro j σ H5 hj ⟨v7, p', rfl, q1, q2, q3, ⟨q4, q5, q6, q7⟩, q8⟩
        refine ⟨_, rfl, _, rfl, _, rfl, _, rfl, _, rfl, _, rfl, _, _, rfl, rfl, _, rfl, _, rfl, hz16, ?_⟩
        rw [show ((0 : Int) + (j : Nat)) = (j : Nat) from Int.zero_add _, cut_win hj]
        refine ⟨d4, _, rfl, put_word q4 (by rw [sizeLine_eq]; omega), _, _, rfl, ?_, ?_, ?_, ⟨upd_same, more_nodup q5 _, ?_, fun x => ?_⟩, fun b u' e => ?_⟩
        · rw [upd_ne x14]; exact q1
        · rw [upd_ne x24]; exact q2
        · rw [upd_ne x34]; exact q3
        · have := more_length p' (win k z j)
          omega
        · rw [mem_more, q7 x, mem_take_succ hj, or_assoc]
        · rw [upd_ne (ne_of_none e n4)]
          exact q8 b u' e
      · rintro σ H5 ⟨v7, p', rfl, q1, q2, q3, ⟨q4, q5, q6, q7⟩, q8⟩
        have ew : (wins k z).take (z.length + 1 - k) = wins k z := List.take_of_length_le (by rw [wins_length]; exact Nat.le_refl _)
        rw [ew] at q7
        refine ⟨_, _, rfl, ⟨S, _, _, p', ⟨q1, a2, ?_, fun x => ?_⟩, ⟨q2, more_nodup h2 _, ?_, fun x => ?_⟩, ⟨q3, more_nodup t2 _, ?_, fun x => ?_⟩, ⟨q4, q5, ?_, fun x => ?_⟩⟩, q8⟩
        · rw [List.length_append]; omega
        · rw [a4 x, List.mem_append, List.mem_singleton]
          constructor
          · rintro ⟨x1, x2⟩
            exact ⟨.inl x1, x2⟩
          · rintro ⟨x1 | rfl, x2⟩
            · exact ⟨x1, x2⟩
            · exact absurd x2 c'
        · have := more_length Hd (z.take (k - 1))
          rw [List.length_append]
          show _ ≤ _ + 1
          omega
        · rw [mem_more, h4 x, ex_app]
          exact or_congr Iff.rfl ⟨fun e => ⟨c', e.symm⟩, fun ⟨_, e⟩ => e.symm⟩
        · have := more_length Tl (z.drop (z.length + 1 - k))
          rw [List.length_append]
          show _ ≤ _ + 1
          omega
        · rw [mem_more, t4 x, ex_app]
          exact or_congr Iff.rfl ⟨fun e => ⟨c', e.symm⟩, fun ⟨_, e⟩ => e.symm⟩
        · rw [sizeW_app]
          show _ ≤ _ + (z.length + 0)
          omega
        · rw [q7 x, ex_app]
          exact or_congr Iff.rfl ⟨fun e => ⟨c', e⟩, fun ⟨_, e⟩ => e⟩
  · rintro σ H2 ⟨v6, v7, rfl, ⟨S, Hd, Tl, Pc, ⟨a1, a2, a3, a4⟩, ⟨h1, h2, h3, h4⟩, ⟨t1, t2, t3, t4⟩, ⟨p1, p2, p3, p4⟩⟩, s2⟩
    rw [List.length_map, List.length_map, List.take_length] at a3 a4 h3 h4 t3 t4 p3 p4
    have eS := sort_shr a2 a4
    have eH : asc Hd = fis k zs := up_uniq (up_asc _) (up_asc _) fun x => by
      show x ∈ asc Hd ↔ x ∈ fis k zs
      rw [mem_asc, h4 x, mem_fis]
    have eT : asc Tl = las k zs := up_uniq (up_asc _) (up_asc _) fun x => by
      show x ∈ asc Tl ↔ x ∈ las k zs
      rw [mem_asc, t4 x, mem_las]
    have eP : asc Pc = pcs k zs := up_uniq (up_asc _) (up_asc _) fun x => by
      show x ∈ asc Pc ↔ x ∈ pcs k zs
      rw [mem_asc, p4 x, mem_pcs]
    refine ⟨_, rfl, _, rfl, d1, S, rfl, a1, by omega, fun p1' ts hp1 ets => ?_⟩
    rw [eS] at ets
    have r1 := same_new hp1 (.lst (ts.map V.ref))
    have er : upd H2 p1' (.lst (ts.map V.ref)) p1' = _ := upd_same
    have ets' : ∀ (i : Nat) (t : Addr), ts[i]? = some t → ∃ z, (shr k zs)[i]? = some z ∧ upd H2 p1' (.lst (ts.map V.ref)) t = some (.tup [.int (z.length : Nat), .str (mkS z)]) := fun i t e => by
      obtain ⟨z, hz, h⟩ := each_at ets e
      exact ⟨z, hz, r1 _ _ h⟩
    have hl := ets.length
    have h1' := r1 _ _ h1
    have t1' := r1 _ _ t1
    have p1'' := r1 _ _ p1
    have s3 := s2.trans r1
    generalize upd H2 p1' (.lst (ts.map V.ref)) = H3 at er ets' h1' t1' p1'' s3 ⊢
    refine ⟨p1', rfl, ⟨_, SqL.of er⟩, fun D hD => ?_⟩
    refine lc_it (walk_list (xs := ts.map V.ref)) (fun i H' => H' D = some (.lst ((((shr k zs).take i).map mkS).map .str)) ∧ Same H3 H') ⟨upd_same, same_new hD _⟩ (fun i H' _ ⟨_, s⟩ => SqL.of (s _ _ er)) ?_ ?_
    · rintro i x H4 H5 hi ⟨m1, m2⟩ ⟨rfl, hx⟩
      rw [List.getElem?_map] at hx
      obtain ⟨t, ht, rfl⟩ := Option.map_eq_some_iff.mp hx
      obtain ⟨z, hz, hzt⟩ := ets' i t ht
      refine ⟨rfl, _, rfl, t, _, 1, _, rfl, rfl, SqT.of (m2 _ _ hzt), rfl, _, m1, ?_, ?_, fun b o e' => ?_⟩
      · rw [List.length_map, List.length_map, List.length_take, sizeLine_eq]
        have := shr_len k zs
        omega
      · rw [upd_same, List.take_add_one, hz, strs_snoc]
        rfl
      · rw [upd_ne (ne_of_none e' hD)]
        exact m2 b o e'
    rintro H4 ⟨m1, m2⟩
    rw [List.length_map, hl, List.take_length] at m1
    refine ⟨D, _, rfl, .inl ⟨SqL.of m1, fun u1 hu1 => ⟨(by show 2 ≤ sizeLine; decide), fun tf htf => ?_⟩⟩⟩
    have a1' := same_new hu1 (.tup (((shr k zs).map mkS).map V.str))
    have a2' := same_new htf (.tup [.int k, .ref u1])
    have z1 := a2' _ _ (show upd H4 u1 (.tup (((shr k zs).map mkS).map V.str)) u1 = some (.tup (((shr k zs).map mkS).map V.str)) from upd_same)
    have z2 : upd (upd H4 u1 (.tup (((shr k zs).map mkS).map V.str))) tf (.tup [.int k, .ref u1]) tf = some (.tup [.int k, .ref u1]) := upd_same
    have nu1 : H u1 = none := (s3.trans m2).free hu1
    have s5 := ((s3.trans m2).trans a1').trans a2'
    have s35 := (m2.trans a1').trans a2'
    generalize upd (upd H4 u1 (.tup (((shr k zs).map mkS).map V.str))) tf (.tup [.int k, .ref u1]) = H5 at z1 z2 s5 s35 ⊢
    have fin : ∀ {ks L : List Wd} {H' : Hp}, asc ks = L → Same H H' → True := fun _ _ => trivial
    refine ⟨_, rfl, _, rfl, d2, tT, Hd, rfl, .inl (s35 _ _ h1'), h2, by omega, fun v2 hv2 => ?_⟩
    rw [eH]
    have b2 := same_new hv2 (.lst (((fis k zs).map mkS).map V.str))
    refine ⟨v2, _, rfl, .inl ⟨SqL.of upd_same, fun u2 hu2 => ?_⟩⟩
    have b3 := b2.trans (same_new hu2 (.tup (((fis k zs).map mkS).map V.str)))
    have z3 : upd (upd H5 v2 (.lst (((fis k zs).map mkS).map V.str))) u2 (.tup (((fis k zs).map mkS).map V.str)) u2 = some (.tup (((fis k zs).map mkS).map V.str)) := upd_same
    have nu2 : H u2 = none := (s5.trans b2).free hu2
    generalize upd (upd H5 v2 (.lst (((fis k zs).map mkS).map V.str))) u2 (.tup (((fis k zs).map mkS).map V.str)) = H6 at b3 z3 ⊢
    refine ⟨_, rfl, d3, tT, Tl, rfl, .inl (b3 _ _ (s35 _ _ t1')), t2, by omega, fun v3 hv3 => ?_⟩
    rw [eT]
    have c2 := same_new hv3 (.lst (((las k zs).map mkS).map V.str))
    refine ⟨v3, _, rfl, .inl ⟨SqL.of upd_same, fun u3 hu3 => ?_⟩⟩
    have c3 := c2.trans (same_new hu3 (.tup (((las k zs).map mkS).map V.str)))
    have z4 : upd (upd H6 v3 (.lst (((las k zs).map mkS).map V.str))) u3 (.tup (((las k zs).map mkS).map V.str)) u3 = some (.tup (((las k zs).map mkS).map V.str)) := upd_same
    have nu3 : H u3 = none := ((s5.trans b3).trans c2).free hu3
    generalize upd (upd H6 v3 (.lst (((las k zs).map mkS).map V.str))) u3 (.tup (((las k zs).map mkS).map V.str)) = H7 at c3 z4 ⊢
    refine ⟨_, rfl, d4, tT, Pc, rfl, .inl (c3 _ _ (b3 _ _ (s35 _ _ p1''))), p2, by omega, fun v4 hv4 => ?_⟩
    rw [eP]
    have e2 := same_new hv4 (.lst (((pcs k zs).map mkS).map V.str))
    refine ⟨v4, _, rfl, .inl ⟨SqL.of upd_same, fun u4 hu4 => ?_⟩⟩
    have e3 := e2.trans (same_new hu4 (.tup (((pcs k zs).map mkS).map V.str)))
    have z5 : upd (upd H7 v4 (.lst (((pcs k zs).map mkS).map V.str))) u4 (.tup (((pcs k zs).map mkS).map V.str)) u4 = some (.tup (((pcs k zs).map mkS).map V.str)) := upd_same
    have nu4 : H u4 = none := (((s5.trans b3).trans c3).trans e2).free hu4
    generalize upd (upd H7 v4 (.lst (((pcs k zs).map mkS).map V.str))) u4 (.tup (((pcs k zs).map mkS).map V.str)) = H8 at e3 z5 ⊢
    refine ⟨(by show 3 ≤ sizeLine; decide), fun tg htg => ?_⟩
    have f2 := same_new htg (.tup [.ref u2, .ref u3, .ref u4])
    refine ⟨tf, tg, _, _, rfl, rfl, SqT.of (f2 _ _ (e3 _ _ (c3 _ _ (b3 _ _ z2)))), SqT.of upd_same, (by intro z; cases z), (by show 2 + 3 ≤ sizeLine; decide), fun z => (by cases z), fun _ p hp => ?_⟩
    have f3 := f2.trans (same_new hp (.tup ([.int k, .ref u1] ++ [.ref u2, .ref u3, .ref u4])))
    have s8 := ((s5.trans b3).trans c3).trans e3
    refine q _ _ (s8.trans f3) ?_
    exact .tup upd_same ((s8.trans f2).free hp) (.cons (.flat (show FlatD (.int k) (.int k) from rfl)) (.cons (dt_ofWords (f3 _ _ (e3 _ _ (c3 _ _ (b3 _ _ z1)))) nu1) (.cons (dt_ofWords (f3 _ _ (e3 _ _ (c3 _ _ z3))) nu2) (.cons (dt_ofWords (f3 _ _ (e3 _ _ z4)) nu3) (.cons (dt_ofWords (f3 _ _ z5) nu4) .nil)))))
end
end Vf

set_option Elab.async false
set_option linter.all false
set_option maxRecDepth 100000
set_option maxHeartbeats 4000000
namespace Vd
open PySem PySem.Spec PyProof.Rows L2 L2.Vx Vm
/-! ### xs == [], whatever the items -/
section
variable {X : Cx}
theorem op_eqNil (hu : X.A.units + 64 < cLine) : OpR X (compareOp .Eq) (fun x y H Q => ∃ a b xs, x = .ref a ∧ y = .ref b ∧ SqL X.K H a xs ∧ SqL X.K H b [] ∧ Q (.bl xs.isEmpty) H) := by
  intro pins s σ H x y v u Q I rx ry h
  obtain ⟨a, b, xs, rfl, rfl, ha, hb, q⟩ := h
  cases rx
  cases ry
  obtain ⟨is1, r1, p1, _⟩ := I.list ha
  obtain ⟨is2, r2, p2, _⟩ := I.list hb
  cases r2
  have hu' : X.A.units < cLine := by omega
  cases xs with
  | nil =>
    cases r1
    exact SeqAt.eq_listAt (e := fun _ => true) p1.isList p2.isList rfl hu' (fun j h1 _ => absurd h1 (by simp)) ⟨.bl true, H, I, rfl, q⟩
  | cons z zs =>
    cases r1 with
    | cons w ws =>
      exact SeqAt.eq_list_lengthsAt p1.isList p2.isList (by simp) hu' ⟨.bl false, H, I, rfl, q⟩
theorem op_neNil (hu : X.A.units + 64 < cLine) : OpR X (compareOp .NotEq) (fun x y H Q => ∃ a b xs, x = .ref a ∧ y = .ref b ∧ SqL X.K H a xs ∧ SqL X.K H b [] ∧ Q (.bl (!xs.isEmpty)) H) := by
  intro pins s σ H x y v u Q I rx ry h
  obtain ⟨a, b, xs, rfl, rfl, ha, hb, q⟩ := h
  cases rx
  cases ry
  obtain ⟨is1, r1, p1, _⟩ := I.list ha
  obtain ⟨is2, r2, p2, _⟩ := I.list hb
  cases r2
  have hu' : X.A.units < cLine := by omega
  cases xs with
  | nil =>
    cases r1
    exact SeqAt.RcNeAt.lists (e := fun _ => true) p1.isList p2.isList rfl hu' (fun j h1 _ => absurd h1 (by simp)) X.prog X.w _ _ ⟨.bl false, H, I, rfl, q⟩
  | cons z zs =>
    cases r1 with
    | cons w ws =>
      exact SeqAt.RcNeAt.lists_lengths p1.isList p2.isList (by simp) hu' X.prog X.w _ _ ⟨.bl true, H, I, rfl, q⟩
end
end Vd

set_option Elab.async false
set_option linter.all false
set_option maxRecDepth 100000
set_option maxHeartbeats 4000000
namespace Vf
open PySem PySem.Spec PyProof.Rows L2
theorem same_newW {H : Hp} {p : Addr} (h : H p = none) (o : HO) : Same H (upd H p o) := fun b u q => by rw [upd_ne (ne_of_none q h)]; exact q
end Vf
namespace Vd
open PySem PySem.Spec PyProof.Rows L2 L2.Vx Vm
/-! ### how much data is at most shown of data, piece by piece -/
mutual
def wt : PyData → Nat
  | .none => 10
  | .bool _ => 10
  | .int _ => 60
  | .str x => 10 * x.length + 4
  | .list ds => wts ds + 4
  | .tuple ds => wts ds + 4
  | .dict _ => 10
def wts : List PyData → Nat
  | [] => 0
  | d :: r => wt d + 2 + wts r
end
mutual
def okD (N : Nat) : PyData → Prop
  | .none => True
  | .bool _ => True
  | .int n => n.natAbs ≤ N
  | .str x => ∀ c ∈ x.cps.toList, c < 1000
  | .list ds => okDs N ds
  | .tuple ds => okDs N ds
  | .dict kvs => kvs = []
def okDs (N : Nat) : List PyData → Prop
  | [] => True
  | d :: r => okD N d ∧ okDs N r
end
theorem wts_app : ∀ a b : List PyData, wts (a ++ b) = wts a + wts b
  | [], b => by simp [wts]
  | d :: r, b => by
    simp only [List.cons_append, wts, wts_app r b]
    omega
theorem okDs_app {N : Nat} : ∀ a b : List PyData, okDs N (a ++ b) ↔ okDs N a ∧ okDs N b
  | [], b => by simp [okDs]
  | d :: r, b => by
    simp only [List.cons_append, okDs, okDs_app r b, and_assoc]
theorem dep_app : ∀ a b : List PyData, PyData.depthAll (a ++ b) = max (PyData.depthAll a) (PyData.depthAll b)
  | [], b => by simp [PyData.depthAll]
  | d :: r, b => by
    simp only [List.cons_append, PyData.depthAll, dep_app r b]
    omega
theorem okDs_mem {N : Nat} : ∀ {ds : List PyData}, okDs N ds → ∀ d ∈ ds, okD N d
  | d :: r, h, e, he => by
    rcases List.mem_cons.mp he with rfl | he
    · exact h.1
    · exact okDs_mem h.2 e he
theorem wts_mem : ∀ {ds : List PyData}, ∀ d ∈ ds, wt d + 2 ≤ wts ds
  | d :: r, e, he => by
    simp only [wts]
    rcases List.mem_cons.mp he with rfl | he
    · omega
    · have := wts_mem e he
      omega
theorem dep_mem : ∀ {ds : List PyData}, ∀ d ∈ ds, d.depth ≤ PyData.depthAll ds
  | d :: r, e, he => by
    simp only [PyData.depthAll]
    rcases List.mem_cons.mp he with rfl | he
    · omega
    · have := dep_mem e he
      omega
theorem wts_len : ∀ ds : List PyData, 2 * ds.length ≤ wts ds
  | [] => Nat.zero_le _
  | d :: r => by
    have := wts_len r
    simp only [wts, List.length_cons]
    omega
mutual
theorem okD.le {N M : Nat} (h : N ≤ M) : ∀ {d : PyData}, okD N d → okD M d
  | .none, _ => trivial
  | .bool _, _ => trivial
  | .int n, q => Nat.le_trans (show n.natAbs ≤ N from q) h
  | .str _, q => q
  | .list ds, q => okDs.le h (show okDs N ds from q)
  | .tuple ds, q => okDs.le h (show okDs N ds from q)
  | .dict _, q => q
theorem okDs.le {N M : Nat} (h : N ≤ M) : ∀ {ds : List PyData}, okDs N ds → okDs M ds
  | [], _ => trivial
  | _ :: _, q => ⟨okD.le h q.1, okDs.le h q.2⟩
end
theorem shown_int {n : Int} (h : n.natAbs < 10 ^ 48) : (PyData.shown (.int n)).length ≤ 60 ∧ PyData.showable (.int n) = true := by
  constructor
  · show (Str.ofString (toString n)).length ≤ 60
    by_cases c : 0 ≤ n
    · exact Nat.le_trans (toString_length_le (k := 48) c (by decide) (by omega)) (by decide)
    · obtain ⟨m, rfl⟩ : ∃ m : Nat, n = Int.negSucc m := ⟨(-n - 1).toNat, by omega⟩
      have e : toString (Int.negSucc m) = "-" ++ Nat.repr (m + 1) := rfl
      have z := toString_length_le (v := ((m + 1 : Nat) : Int)) (k := 48) (by omega) (by decide) (by
        have : (Int.negSucc m).natAbs = m + 1 := rfl
        rw [this] at h
        omega)
      rw [PyProof.Rows.ofString_length] at z ⊢
      have e2 : toString ((m + 1 : Nat) : Int) = Nat.repr (m + 1) := rfl
      rw [e2] at z
      rw [e, String.toList_append, List.length_append]
      have : ("-" : String).toList.length = 1 := rfl
      omega
  · show decide (n.natAbs.log2 < 1920) = true
    refine decide_eq_true ?_
    by_cases c : n.natAbs = 0
    · rw [c]; decide
    · exact Nat.lt_trans ((Nat.log2_lt (k := 200) c).mpr (Nat.lt_trans h (by decide))) (by decide)
mutual
theorem fit_wt {N : Nat} (hN : N < 10 ^ 48) : ∀ {d : PyData}, okD N d → Fit (wt d) d.depth d
  | .none, _ => ⟨rfl, by show (Str.ofString "None").length ≤ 10; decide, Nat.le_refl _⟩
  | .bool b, _ => ⟨rfl, by cases b <;> decide, Nat.le_refl _⟩
  | .int n, q => by
    have z := shown_int (n := n) (Nat.lt_of_le_of_lt (show n.natAbs ≤ N from q) hN)
    exact ⟨z.2, z.1, Nat.le_refl _⟩
  | .str x, q => by
    have z := fit_str (z := x.cps.toList) (n := x.length) q (by rw [Array.length_toList]; exact Nat.le_refl _)
    rw [mkS_of] at z
    exact z.le (by show _ ≤ 10 * x.length + 4; omega) (Nat.zero_le _)
  | .list ds, q => by
    obtain ⟨a, b, c⟩ := fits_wts hN (show okDs N ds from q)
    refine ⟨by simpa only [PyData.showable] using a, ?_, Nat.le_refl _⟩
    simp only [PyData.shown, wt]
    refine Nat.le_trans (listText_len_le _) ?_
    omega
  | .tuple ds, q => by
    obtain ⟨a, b, c⟩ := fits_wts hN (show okDs N ds from q)
    refine ⟨by simpa only [PyData.showable] using a, ?_, Nat.le_refl _⟩
    simp only [PyData.shown, wt]
    refine Nat.le_trans (tupleText_len_le _) ?_
    omega
  | .dict kvs, q => by
    have e : kvs = [] := q
    subst e
    exact ⟨rfl, by decide, Nat.le_refl _⟩
theorem fits_wts {N : Nat} (hN : N < 10 ^ 48) : ∀ {ds : List PyData}, okDs N ds → PyData.showableAll ds = true ∧ ((PyData.shownAll ds).map (·.length)).sum + 2 * (PyData.shownAll ds).length ≤ wts ds ∧ (PyData.shownAll ds).length = ds.length
  | [], _ => ⟨rfl, by simp [PyData.shownAll, wts], rfl⟩
  | d :: r, q => by
    obtain ⟨a, b, c⟩ := fits_wts hN q.2
    have z := fit_wt hN q.1
    refine ⟨by simp only [PyData.showableAll, z.sh, a, Bool.and_self], ?_, by simp only [PyData.shownAll, List.length_cons, c]⟩
    have := z.len
    simp only [PyData.shownAll, List.map_cons, List.sum_cons, List.length_cons, wts]
    omega
end
mutual
theorem wideD_le {n m : Nat} (h : n ≤ m) : ∀ {d : PyData}, wideD n d → wideD m d
  | .none, _ => trivial
  | .bool _, _ => trivial
  | .int _, _ => trivial
  | .str x, q => Nat.le_trans (show x.length ≤ n from q) h
  | .list ds, q => ⟨Nat.le_trans (show ds.length ≤ n ∧ wideDs n ds from q).1 h, wideDs_le h (show ds.length ≤ n ∧ wideDs n ds from q).2⟩
  | .tuple ds, q => ⟨Nat.le_trans (show ds.length ≤ n ∧ wideDs n ds from q).1 h, wideDs_le h (show ds.length ≤ n ∧ wideDs n ds from q).2⟩
  | .dict _, _ => trivial
theorem wideDs_le {n m : Nat} (h : n ≤ m) : ∀ {ds : List PyData}, wideDs n ds → wideDs m ds
  | [], _ => trivial
  | _ :: _, q => ⟨wideD_le h q.1, wideDs_le h q.2⟩
end
mutual
theorem wide_wt : ∀ {d : PyData}, wideD (wt d / 2) d
  | .none => trivial
  | .bool _ => trivial
  | .int _ => trivial
  | .str x => by show x.length ≤ (10 * x.length + 4) / 2; omega
  | .list ds => ⟨by have := wts_len ds; show _ ≤ (wts ds + 4) / 2; omega, wideDs_le (by show wts ds / 2 ≤ (wts ds + 4) / 2; omega) wides_wts⟩
  | .tuple ds => ⟨by have := wts_len ds; show _ ≤ (wts ds + 4) / 2; omega, wideDs_le (by show wts ds / 2 ≤ (wts ds + 4) / 2; omega) wides_wts⟩
  | .dict _ => trivial
theorem wides_wts : ∀ {ds : List PyData}, wideDs (wts ds / 2) ds
  | [] => trivial
  | d :: r => ⟨wideD_le (by simp only [wts]; omega) wide_wt, wideDs_le (by simp only [wts]; omega) wides_wts⟩
end
/-- bounded data: ints by N, weight by n, depth by e -/
structure Bd (N n e : Nat) (D : PyData) : Prop where
  ok : okD N D
  w : wt D ≤ n
  dep : D.depth ≤ e
theorem Bd.le {N n e N' n' e' : Nat} {D : PyData} (h : Bd N n e D) (h1 : N ≤ N') (h2 : n ≤ n') (h3 : e ≤ e') : Bd N' n' e' D := ⟨okD.le h1 h.ok, Nat.le_trans h.w h2, Nat.le_trans h.dep h3⟩
theorem Bd.wide {N n e m : Nat} {D : PyData} (h : Bd N n e D) (hm : n ≤ 2 * m) : wideD m D := wideD_le (by have := h.w; omega) wide_wt
theorem Bd.shows {N n e : Nat} {D : PyData} (h : Bd N n e D) (h1 : N < 10 ^ 48) (h2 : n ≤ 1000000) (h3 : e ≤ 60) : Shows D := ((fit_wt h1 h.ok).le (Nat.le_trans h.w h2) (Nat.le_trans h.dep h3)).shows (Nat.le_refl _) (Nat.le_refl _)
theorem bd_str {N n : Nat} {z : Wd} (h : ∀ c ∈ z, c < 1000) (hn : 10 * z.length + 4 ≤ n) : Bd N n 0 (.str (mkS z)) := ⟨by show ∀ c ∈ (mkS z).cps.toList, c < 1000; rw [mkS_cps]; exact h, by show 10 * (mkS z).length + 4 ≤ n; rw [mkS_length]; exact hn, Nat.zero_le _⟩
theorem bdI {N n : Nat} {i : Int} (h : i.natAbs ≤ N) (hn : 60 ≤ n) : Bd N n 0 (.int i) := ⟨h, hn, Nat.zero_le _⟩
theorem bd_tup {N n e : Nat} {ds : List PyData} : Bd N n (e + 1) (.tuple ds) ↔ okDs N ds ∧ wts ds + 4 ≤ n ∧ PyData.depthAll ds ≤ e := by
  constructor
  · intro h
    have a := h.dep
    simp only [PyData.depth] at a
    exact ⟨h.ok, h.w, by omega⟩
  · rintro ⟨a, b, c⟩
    exact ⟨a, b, by simp only [PyData.depth]; omega⟩
theorem wts_cut (ds : List PyData) (i : Nat) : wts (ds.take i) + wts (ds.drop i) = wts ds := by rw [← wts_app, List.take_append_drop]
theorem ok_take {N : Nat} {ds : List PyData} (h : okDs N ds) (i : Nat) : okDs N (ds.take i) := by
  rw [← List.take_append_drop i ds, okDs_app] at h
  exact h.1
theorem ok_drop {N : Nat} {ds : List PyData} (h : okDs N ds) (i : Nat) : okDs N (ds.drop i) := by
  rw [← List.take_append_drop i ds, okDs_app] at h
  exact h.2
theorem dep_take {e : Nat} {ds : List PyData} (h : PyData.depthAll ds ≤ e) (i : Nat) : PyData.depthAll (ds.take i) ≤ e := by
  rw [← List.take_append_drop i ds, dep_app] at h
  omega
theorem dep_drop {e : Nat} {ds : List PyData} (h : PyData.depthAll ds ≤ e) (i : Nat) : PyData.depthAll (ds.drop i) ≤ e := by
  rw [← List.take_append_drop i ds, dep_app] at h
  omega
/-! ### slices, sums of tuples of data -/
def cutG {α : Type} (xs : List α) (lo hi : Option Int) : List α := (xs.drop (HT.sIx xs.length 0 lo)).take (HT.sIx xs.length xs.length hi - HT.sIx xs.length 0 lo)
theorem dtA_drop {H : Hp} {S : Addr → Prop} : ∀ {vs : List V} {ds : List PyData} (i : Nat), DtAll H S vs ds → DtAll H S (vs.drop i) (ds.drop i)
  | _, _, 0, h => h
  | _, _, _ + 1, .nil => .nil
  | _, _, i + 1, .cons _ r => dtA_drop i r
theorem dtA_take {H : Hp} {S : Addr → Prop} : ∀ {vs : List V} {ds : List PyData} (i : Nat), DtAll H S vs ds → DtAll H S (vs.take i) (ds.take i)
  | _, _, 0, _ => .nil
  | _, _, _ + 1, .nil => .nil
  | _, _, i + 1, .cons h r => .cons h (dtA_take i r)
theorem dtA_cut {H : Hp} {S : Addr → Prop} {vs : List V} {ds : List PyData} (h : DtAll H S vs ds) (lo hi : Option Int) : DtAll H S (cutV vs lo hi) (cutG ds lo hi) := by
  unfold cutV cutG
  rw [dtA_len h]
  exact dtA_take _ (dtA_drop _ h)
theorem cutG_all {α : Type} {xs : List α} {lo hi : Option Int} (h : HT.sIx xs.length 0 lo = 0 ∧ HT.sIx xs.length xs.length hi = xs.length) : cutG xs lo hi = xs := by
  unfold cutG
  rw [h.1, h.2]
  exact List.take_length
theorem cutG_to {α : Type} {xs : List α} {i : Nat} : cutG xs none (some (i : Int)) = xs.take i := by
  unfold cutG
  rw [show HT.sIx xs.length 0 none = 0 from rfl, show HT.sIx xs.length xs.length (some (i : Int)) = min i xs.length from HT.sIx_nat _ _ i, Nat.sub_zero, List.drop_zero]
  by_cases h : i ≤ xs.length
  · rw [Nat.min_eq_left h]
  · rw [Nat.min_eq_right (by omega), List.take_length, List.take_of_length_le (by omega)]
theorem cutG_from {α : Type} {xs : List α} {i : Nat} : cutG xs (some (i : Int)) none = xs.drop i := by
  unfold cutG
  rw [show HT.sIx xs.length xs.length none = xs.length from rfl, show HT.sIx xs.length 0 (some (i : Int)) = min i xs.length from HT.sIx_nat _ _ i]
  by_cases h : i ≤ xs.length
  · rw [Nat.min_eq_left h]
    exact List.take_of_length_le (by rw [List.length_drop]; exact Nat.le_refl _)
  · rw [Nat.min_eq_right (by omega), List.drop_length, List.drop_eq_nil_of_le (by omega)]
    exact List.take_nil
theorem cutG_mid {α : Type} {xs : List α} {i j : Nat} (h : i ≤ j) : cutG xs (some (i : Int)) (some (j : Int)) = (xs.drop i).take (j - i) := by
  unfold cutG
  rw [show HT.sIx xs.length xs.length (some (j : Int)) = min j xs.length from HT.sIx_nat _ _ j, show HT.sIx xs.length 0 (some (i : Int)) = min i xs.length from HT.sIx_nat _ _ i]
  by_cases h1 : i ≤ xs.length
  · rw [Nat.min_eq_left h1]
    by_cases h2 : j ≤ xs.length
    · rw [Nat.min_eq_left h2]
    · rw [Nat.min_eq_right (by omega), List.take_of_length_le (by rw [List.length_drop]; exact Nat.le_refl _), List.take_of_length_le (by rw [List.length_drop]; omega)]
  · have e1 : min i xs.length = xs.length := by omega
    have e2 : min j xs.length = xs.length := by omega
    rw [e1, e2, List.drop_length, List.drop_eq_nil_of_le (by omega), List.take_nil, List.take_nil]
theorem sl_dt {K : PySem.W.Frag} {H : Hp} {S : Addr → Prop} {a : Addr} {xs : List V} {ds : List PyData} {lo hi : Option Int} {Q : V → Hp → Prop} (ea : H a = some (.tup xs)) (sa : S a) (da : DtAll H S xs ds)
    (hn : ∀ p, H p = none → S p) (q : ∀ v H', Same H H' → Dt H' S v (.tuple (cutG ds lo hi)) → Q v H') : rSlA K (.ref a) lo hi H Q := by
  refine ⟨a, xs, rfl, SqT.of ea, fun h => ?_, fun _ p hp => ?_⟩
  · rw [dtA_len da] at h
    refine q _ H (Same.refl H) ?_
    rw [cutG_all h]
    exact .tup ea sa da
  · have s1 := Vf.same_newW hp (.tup (cutV xs lo hi))
    exact q _ _ s1 (.tup upd_same (hn p hp) (dtA_same (dtA_cut da lo hi) s1))
theorem cat_dt {K : PySem.W.Frag} {H : Hp} {S : Addr → Prop} {u v : V} {ds es : List PyData} {Q : V → Hp → Prop} (hu : Dt H S u (.tuple ds)) (hv : Dt H S v (.tuple es)) (hz : ds.length + es.length ≤ sizeLine)
    (hn : ∀ p, H p = none → S p) (q : ∀ v H', Same H H' → Dt H' S v (.tuple (ds ++ es)) → Q v H') : rCatA K u v H Q := by
  obtain ⟨a, xs, rfl, ea, sa, da⟩ := dt_tup hu
  obtain ⟨b, ys, rfl, eb, sb, db⟩ := dt_tup hv
  refine ⟨a, b, xs, ys, rfl, rfl, SqT.of ea, SqT.of eb, by rw [dtA_len da, dtA_len db]; exact hz, fun h => ?_, fun _ h => ?_, fun _ _ p hp => ?_⟩
  · subst h
    have e : ds = [] := by
      have := dtA_len da
      exact List.length_eq_zero_iff.mp this.symm
    subst e
    exact q _ _ (Same.refl H) hv
  · subst h
    have e : es = [] := by
      have := dtA_len db
      exact List.length_eq_zero_iff.mp this.symm
    subst e
    rw [List.append_nil] at q
    exact q _ _ (Same.refl H) hu
  · have s1 := Vf.same_newW hp (.tup (xs ++ ys))
    exact q _ _ s1 (.tup upd_same (hn p hp) (dtA_same (DtAll.append da db) s1))
theorem go2 {f : V → Hp → Prop} {a : V} {H : Hp} (H' : Hp) (e : H = H') (h : f a H') : f a H := e ▸ h
theorem bdN {N n : Nat} (h : 10 ≤ n) : Bd N n 0 .none := ⟨trivial, h, Nat.zero_le _⟩
theorem bdB {N n : Nat} {b : Bool} (h : 10 ≤ n) : Bd N n 0 (.bool b) := ⟨trivial, h, Nat.zero_le _⟩
theorem bdS {N n : Nat} {x : Str} (h : (x.cps.toList.all fun c => decide (c < 1000)) = true) (hl : 10 * x.length + 4 ≤ n) : Bd N n 0 (.str x) := ⟨fun c hc => of_decide_eq_true (List.all_eq_true.mp h c hc), hl, Nat.zero_le _⟩
theorem bdT0 {N n : Nat} (h : 4 ≤ n) : Bd N n 1 (.tuple []) := bd_tup.2 ⟨trivial, by simp only [wts]; omega, by simp only [PyData.depthAll]; omega⟩
theorem bdT1 {N n m e : Nat} {D : PyData} (h : Bd N n e D) (hm : n + 6 ≤ m) : Bd N m (e + 1) (.tuple [D]) := by
  refine bd_tup.2 ⟨⟨h.ok, trivial⟩, ?_, ?_⟩
  · have := h.w
    simp only [wts]
    omega
  · have := h.dep
    simp only [PyData.depthAll]
    omega
theorem bdL0 {N n : Nat} (h : 4 ≤ n) : Bd N n 1 (.list []) := ⟨trivial, by simp only [wt, wts]; omega, by simp only [PyData.depth, PyData.depthAll]; omega⟩
theorem bdL1 {N n m e : Nat} {D : PyData} (h : Bd N n e D) (hm : n + 6 ≤ m) : Bd N m (e + 1) (.list [D]) := by
  refine ⟨⟨h.ok, trivial⟩, ?_, ?_⟩
  · have := h.w
    simp only [wt, wts]
    omega
  · have := h.dep
    simp only [PyData.depth, PyData.depthAll]
    omega
theorem bdD0 {N n : Nat} (h : 10 ≤ n) : Bd N n 1 (.dict []) := ⟨rfl, h, by simp only [PyData.depth, PyData.depthKv]; omega⟩
section
variable {X : Cx}
/-- t == (), whatever the items -/
theorem op_eqNilT (hu : X.A.units + 64 < cLine) : OpR X (compareOp .Eq) (fun x y H Q => ∃ a b xs, x = .ref a ∧ y = .ref b ∧ SqT X.K H a xs ∧ SqT X.K H b [] ∧ Q (.bl xs.isEmpty) H) := by
  intro pins s σ H x y v u Q I rx ry h
  obtain ⟨a, b, xs, rfl, rfl, ha, hb, q⟩ := h
  cases rx
  cases ry
  obtain ⟨is1, r1, p1, _⟩ := I.tuple ha
  obtain ⟨is2, r2, p2, _⟩ := I.tuple hb
  cases r2
  have hu' : X.A.units < cLine := by omega
  refine SeqAt.eq_tupleAt (e := fun _ => true) p1 p2 hu' (fun j _ h2 => absurd h2 (by simp)) ⟨.bl xs.isEmpty, H, I, ?_, q⟩
  show Value.bool _ = Value.bool _
  cases xs with
  | nil => cases r1; rfl
  | cons z zs => cases r1 with
    | cons w ws => simp
end
end Vd

set_option Elab.async false
set_option linter.all false
set_option maxRecDepth 100000
set_option maxHeartbeats 4000000
namespace Vf
open PySem PySem.Spec PyProof.Rows L2 L2.Vx Vs Vm
abbrev sSizes : Stmt := top 22
abbrev sWordK : Stmt := top 25
abbrev sTurned : Stmt := top 26
abbrev sLl : Stmt := top 24
structure TxtW3 (mg : Str → Option Value) (fW fP : Addr) : Prop extends TxtD mg fW where
  pick : mg "_law_pick" = some (.ref fP)
  range : mg "range" = none
/-! ### signs, widths, words -/
def GoodS (z : Wd) : Prop := 1 ≤ z.length ∧ z.length ≤ 4 ∧ ∀ c ∈ z, 97 ≤ c ∧ c ≤ 122
def spSizes : Sp := fun vs H Q _ => ∃ (d g : Addr) (c : Nat), vs = [.ref d] ∧ DeckAt c H d g ∧ c + 2 ≤ most ∧
  ∀ (z : Wd) (k : Nat) (p : Addr) (H' : Hp), GoodS z → 1 ≤ k → k ≤ 4 → H' p = some (.tup [.str (mkS z), .int k]) → DeckAt (c + 2) H' d g → Keeps d g H H' → Q (.ref p) H'
def spPickT : Sp := fun vs H Q _ => ∃ (d g p : Addr) (xs : List V) (c : Nat), vs = [.ref d, .ref p] ∧ H p = some (.tup xs) ∧ p ≠ d ∧ p ≠ g ∧ xs ≠ [] ∧ xs.length < 1000000 ∧ DeckAt c H d g ∧ c < most ∧
  ∀ (x : V) (H' : Hp), x ∈ xs → DeckAt (c + 1) H' d g → Keeps d g H H' → Q x H'
def five : List V := [.str "a", .str "ab", .str "bx", .str "abc", .str "bdfz"]
theorem five_good {x : V} (h : x ∈ five) : ∃ z : Wd, x = .str (mkS z) ∧ GoodS z := by
  have all : ∀ w ∈ [[97], [97, 98], [98, 120], [97, 98, 99], [98, 100, 102, 122]], GoodS w := by
    intro w hw
    have : ∀ w ∈ [[97], [97, 98], [98, 120], [97, 98, 99], [98, 100, 102, 122]], 1 ≤ w.length ∧ w.length ≤ 4 ∧ ∀ c ∈ w, 97 ≤ c ∧ c ≤ 122 := by decide
    exact this w hw
  unfold five at h
  simp only [List.mem_cons, List.not_mem_nil, or_false] at h
  rcases h with e | e | e | e | e
  · exact ⟨[97], e.trans (congrArg V.str (by decide +kernel)), all _ (by simp)⟩
  · exact ⟨[97, 98], e.trans (congrArg V.str (by decide +kernel)), all _ (by simp)⟩
  · exact ⟨[98, 120], e.trans (congrArg V.str (by decide +kernel)), all _ (by simp)⟩
  · exact ⟨[97, 98, 99], e.trans (congrArg V.str (by decide +kernel)), all _ (by simp)⟩
  · exact ⟨[98, 100, 102, 122], e.trans (congrArg V.str (by decide +kernel)), all _ (by simp)⟩
theorem four_at {n : Nat} (h1 : 1 ≤ n) (h2 : n ≤ 4) : ∃ b : Int, atI [V.int 4, V.int 3, V.int 2, V.int 2] ((n : Int) - 1) = some (.int b) ∧ 0 < b ∧ b ≤ 4 := by
  match n, h1, h2 with
  | 1, _, _ => exact ⟨4, rfl, by decide, by decide⟩
  | 2, _, _ => exact ⟨3, rfl, by decide, by decide⟩
  | 3, _, _ => exact ⟨2, rfl, by decide, by decide⟩
  | 4, _, _ => exact ⟨2, rfl, by decide, by decide⟩
section
variable {P : Program} {w : World} {K : PySem.W.Frag} {mg : Str → Option Value} {base : Heap}
theorem ok_pickT {f : Addr} {fd : FuncData} {fW : Addr} {fdW : FuncData} (F : Fun K "_law_pick" "_law_pick" sPick f fd) (FW : Fun K "_law_draw" "_law_draw" sDraw fW fdW) (bW : Binds K fdW ["_law_deck_here", "_law_many"] []) (T : TxtD mg fW) : FnOk P w K mg base CX0 2 f fd ["_law_deck_here", "_law_some"] spPickT := by
  have GW : FnOk P w K mg base CX0 1 fW fdW ["_law_deck_here", "_law_many"] spDraw := ok_draw FW T
  refine F.ok scPick (fun vs H Q E h => ?_) (fun cdv A outer s H vs Q E hr h => ?_)
  · obtain ⟨d, g, p, xs, c, rfl, _⟩ := h
    rfl
  obtain ⟨d, g, p, xs, c, rfl, hS, n1, n2, hne, hlen, hD, hc, k⟩ := h
  refine ⟨_, pss_one (ps_ret (pe_ix ix_tup (pv 1) (pe_call GW hr rfl T.draw FW.kp bW .nil pass0 (pa_cons (pv 0) (pa_cons (pe_callB call_len_seq (by rfl) T.len PySem.boot_len (pa_cons (pv 1) pa_nil)) pa_nil))) (fun _ _ => rfl))), ?_⟩
  have hpos : 0 < xs.length := List.length_pos_iff.mpr hne
  refine ⟨_, rfl, _, rfl, _, rfl, p, _, rfl, .inr (SqT.of hS), d, g, _, c, rfl, by omega, by omega, hD, hc, fun r H' h0 h1 hD' kp => ?_⟩
  have hr : r.toNat < xs.length := by omega
  have er : r = ((r.toNat : Nat) : Int) := by omega
  have hx : atI xs r = some xs[r.toNat] := at_of er (List.getElem?_eq_getElem hr)
  exact ⟨p, _, r, _, rfl, rfl, SqT.of (kp _ _ n1 n2 hS), hx, k _ H' (List.getElem_mem hr) hD' kp⟩
theorem scSizes : FnScope ["_law_deck_here", "_law_abc"] ["_law_deck_here"] (defScope sSizes) := ⟨rfl, rfl, rfl, by decide +kernel, rfl, by decide +kernel, by decide +kernel⟩
theorem ok_sizes {f fW fP : Addr} {fd fdW fdP : FuncData} (F : Fun K "_law_sizes" "_law_sizes" sSizes f fd) (T : TxtW3 mg fW fP)
    (GW : FnOk P w K mg base CX0 1 fW fdW ["_law_deck_here", "_law_many"] spDraw) (bW : Binds K fdW ["_law_deck_here", "_law_many"] []) (kW : PySem.W.keepIn K (.ref fW) = true)
    (GP : FnOk P w K mg base CX0 2 fP fdP ["_law_deck_here", "_law_some"] (spPick K)) (bP : Binds K fdP ["_law_deck_here", "_law_some"] []) (kP : PySem.W.keepIn K (.ref fP) = true) :
    FnOk P w K mg base CX0 3 f fd ["_law_deck_here"] spSizes := by
  refine F.ok scSizes (fun vs H Q E h => ?_) (fun cdv A outer s H vs Q E hr h => ?_)
  · obtain ⟨d, g, c, rfl, _⟩ := h
    rfl
  obtain ⟨d, g, c, rfl, hD, hc, q⟩ := h
  have hr1 : Room 1 _ := hr.mono (by decide)
  refine ⟨_, pss_cons (ps_set (i := 1) scSizes.nd rfl (Or.inl rfl) (pe_call GP hr rfl T.pick kP bP .nil pass0 (pa_cons (pv 0) (pa_cons (pe_lst (pa_cons pe_str (pa_cons pe_str (pa_cons pe_str (pa_cons pe_str (pa_cons pe_str pa_nil)))))) pa_nil))))
    (pss_one (ps_ret (pe_tup (pa_cons (pv 1) (pa_cons (pe_op op_add pe_int (pe_call GW hr1 rfl T.draw kW bW .nil pass0 (pa_cons (pv 0) (pa_cons
      (pe_ix ix_list (pe_lst (pa_cons pe_int (pa_cons pe_int (pa_cons pe_int (pa_cons pe_int pa_nil))))) (pe_op op_sub (pe_callB call_len_str (by rfl) T.len PySem.boot_len (pa_cons (pv 1) pa_nil)) pe_int) (fun _ _ => rfl)) pa_nil)))) pa_nil))))), ?_⟩
  refine ⟨_, rfl, (by show 5 ≤ sizeLine; decide), fun l hl => ?_⟩
  have nl := hD.dn hl
  refine ⟨d, g, l, five, c, rfl, SqL.of upd_same, nl.1, nl.2, (by intro z; cases z), (by show 5 < 1000000; decide), hD.same (same_new hl _), by omega, fun x H1 hx hD1 k1 => ?_⟩
  obtain ⟨z, rfl, gz⟩ := five_good hx
  refine ⟨_, rfl, _, rfl, (by show 4 ≤ sizeLine; decide), fun l2 hl2 => ?_⟩
  have hz : (mkS z).length = z.length := mkS_length z
  obtain ⟨b, hb, hb0, hb8⟩ := four_at gz.1 gz.2.1
  have s2 := same_new hl2 (.lst [.int 4, .int 3, .int 2, .int 2])
  refine ⟨_, rfl, _, rfl, (by rw [hz, sizeLine_eq]; have := gz.2.1; omega), _, _, rfl, rfl, l2, _, _, .int b, rfl, rfl, SqL.of upd_same, by rw [hz]; exact hb, d, g, b, c + 1, rfl, hb0, by omega, hD1.same s2, by omega, fun r H2 r0 rb hD2 k2 => ?_⟩
  refine ⟨_, _, rfl, rfl, (by show 2 ≤ sizeLine; decide), fun t ht => ?_⟩
  have ek : (1 + r : Int) = ((1 + r).toNat : Nat) := by omega
  refine q z (1 + r).toNat t _ gz (by omega) (by omega) ?_ (hD2.same (same_new ht _)) ((((Keeps.of (same_new hl _)).trans k1).trans (Keeps.of s2)).trans k2 |>.trans (Keeps.of (same_new ht _)))
  rw [upd_same, ← ek]

end
def spWordK : Sp := fun vs H Q _ => ∃ (d g : Addr) (sg : Wd) (c : Nat), vs = [.ref d, .str (mkS sg)] ∧ GoodS sg ∧ DeckAt c H d g ∧ c + 20 ≤ most ∧
  ∀ (z : Wd) (H' : Hp), z.length ≤ 10 → (∀ x ∈ z, x ∈ sg) → DeckAt (c + 20) H' d g → Keeps d g H H' → Q (.str (mkS z)) H'
def spTurned : Sp := fun vs H Q _ => ∃ (d g a : Addr) (zs : List Wd) (c : Nat), vs = [.ref d, .ref a] ∧ H a = some (.lst ((zs.map mkS).map .str)) ∧ a ≠ d ∧ a ≠ g ∧ zs.length ≤ 20 ∧ DeckAt c H d g ∧ c + 20 ≤ most ∧
  ∀ (ys : List Wd) (p : Addr) (H' : Hp), ys.Perm zs → p ≠ d → p ≠ g → H' p = some (.lst ((ys.map mkS).map .str)) → DeckAt (c + 20) H' d g → Keeps d g H H' → Q (.ref p) H'
theorem seqIx {r : Int} {n : Nat} (h0 : 0 ≤ r) (h1 : r < n) : seqIndex? r n = some r.toNat := (ixN_seq (by unfold ixN; rw [if_pos h0, if_pos h1])).1
theorem erase_map {α β : Type} (f : α → β) : ∀ (l : List α) (k : Nat), (l.map f).eraseIdx k = (l.eraseIdx k).map f
  | [], _ => rfl
  | _ :: _, 0 => rfl
  | x :: l, k + 1 => congrArg (f x :: ·) (erase_map f l k)
theorem perm_at {α : Type} : ∀ (l : List α) (k : Nat) (x : α), l[k]? = some x → (x :: l.eraseIdx k).Perm l
  | [], k, x, h => by simp at h
  | y :: l, 0, x, h => by
    obtain rfl := Option.some.inj h
    exact List.Perm.refl _
  | y :: l, k + 1, x, h => (List.Perm.swap y x _).trans ((perm_at l k x h).cons y)
section
variable {P : Program} {w : World} {K : PySem.W.Frag} {mg : Str → Option Value} {base : Heap}
theorem scWordK : FnScope ["_law_deck_here", "_law_abc", "_law_k"] ["_law_deck_here", "_law_abc"] (defScope sWordK) := ⟨rfl, rfl, rfl, by decide +kernel, rfl, by decide +kernel, by decide +kernel⟩
theorem ok_wordK {f fW fP : Addr} {fd fdW fdP : FuncData} (F : Fun K "_law_word" "_law_word" sWordK f fd) (T : TxtW3 mg fW fP)
    (GW : FnOk P w K mg base CX0 1 fW fdW ["_law_deck_here", "_law_many"] spDraw) (bW : Binds K fdW ["_law_deck_here", "_law_many"] []) (kW : PySem.W.keepIn K (.ref fW) = true)
    (GP : FnOk P w K mg base CX0 2 fP fdP ["_law_deck_here", "_law_some"] spPickS) (bP : Binds K fdP ["_law_deck_here", "_law_some"] []) (kP : PySem.W.keepIn K (.ref fP) = true) :
    FnOk P w K mg base CX0 3 f fd ["_law_deck_here", "_law_abc"] spWordK := by
  refine F.ok scWordK (fun vs H Q E h => ?_) (fun cdv A outer s H vs Q E hr h => ?_)
  · obtain ⟨d, g, sg, c, rfl, _⟩ := h
    rfl
  obtain ⟨d, g, sg, c, rfl, gs, hD, hc, q⟩ := h
  have hr1 : Room 1 _ := hr.mono (by decide)
  refine ⟨_, pss_one (ps_ret (pe_join pe_str (pe_lc (own := [("_law_k", 2)]) (g := gName 2) (tt := tYes) rfl scWordK.nd
        (pi_range1 rfl T.range (pa_cons (pe_call GW hr1 rfl T.draw kW bW .nil pass0 (pa_cons (pv 0) (pa_cons pe_int pa_nil))) pa_nil))
        (blkOk_by (N := ["_law_deck_here", "_law_abc", "_law_k"]) (sc := defScope sWordK) (by decide +kernel)) (fun _ _ _ _ _ => pg_name (i := 2) scWordK.nd rfl (Or.inl rfl)) (fun _ _ _ _ _ => pts_nil)
        (fun _ _ _ _ _ => by exact pe_call GP hr rfl T.pick kP bP .nil pass0 (pa_cons (pv 0) (pa_cons (pv 1) pa_nil)))))), ?_⟩
  refine ⟨⟨_, rfl⟩, _, rfl, d, g, _, c, rfl, by decide, by decide, hD, by omega, fun r1 H1 a0 a1 hD1 k1 => ?_⟩
  refine ⟨r1, rfl, by omega, by omega, fun D hD3 => ?_⟩
  have nD := hD1.dn hD3
  refine lc_it (walk_range (lo := 0) (n := r1.toNat)) (fun i H' => ∃ us : Wd, H' D = some (.lst (us.map fun c => V.str (mkS [c]))) ∧ us.length = i ∧ (∀ x ∈ us, x ∈ sg) ∧ DeckAt (c + 1 + i) H' d g ∧ Keeps d g H1 H')
    ⟨[], upd_same, rfl, (fun _ z => nomatch z), hD1.same (same_new hD3 _), Keeps.of (same_new hD3 _)⟩ (fun _ _ _ _ => trivial) ?_ ?_
  · rintro i x H3 H4 hi ⟨us, m1, m2, m3, hD4, k4⟩ ⟨rfl, rfl⟩
    have hl : (mkS sg).length = sg.length := mkS_length sg
    refine ⟨rfl, _, rfl, _, rfl, d, g, mkS sg, c + 1 + i, rfl, by rw [hl]; exact gs.1, by rw [hl]; have := gs.2.1; omega, hD4, by omega, fun x H5 hx hD5 k5 => ?_⟩
    rw [mkS_cps] at hx
    refine ⟨_, k5 _ _ nD.1 nD.2 m1, by rw [List.length_map, m2, sizeLine_eq]; omega, us ++ [x], ?_, by rw [List.length_append, m2]; rfl, ?_, hD5.other nD.1 nD.2 _, fun b o n1 n2 e => ?_⟩
    · rw [upd_same, List.map_append]
      rfl
    · intro y hy
      rcases List.mem_append.mp hy with hy | hy
      · exact m3 y hy
      · rw [List.mem_singleton.mp hy]; exact hx
    · rw [upd_ne (ne_of_none e hD3)]
      exact k5 b o n1 n2 (k4 b o n1 n2 e)
  · rintro H3 ⟨us, m1, m2, m3, hD4, k4⟩
    have m1' : H3 D = some (.lst ((us.map fun c => mkS [c]).map V.str)) := by rw [m1, List.map_map]; rfl
    refine ⟨_, D, _, rfl, rfl, .inl (SqL.of m1'), ?_, ?_⟩
    · rw [sum_signs, List.length_map]
      show us.length + us.length * 0 ≤ _
      omega
    rw [join_signs]
    exact q us H3 (by omega) m3 (hD4.le (by omega)) (k1.trans k4)
abbrev nTurned : List Str := ["_law_deck_here", "_law_some", "_law_left", "_law_k"]
theorem scTurned : FnScope nTurned ["_law_deck_here", "_law_some"] (defScope sTurned) := ⟨rfl, rfl, rfl, by decide +kernel, rfl, by decide +kernel, by decide +kernel⟩
theorem ok_turned {f fW fP : Addr} {fd fdW : FuncData} (F : Fun K "_law_turned" "_law_turned" sTurned f fd) (T : TxtW3 mg fW fP) (hlist : mg "list" = none)
    (GW : FnOk P w K mg base CX0 1 fW fdW ["_law_deck_here", "_law_many"] spDraw) (bW : Binds K fdW ["_law_deck_here", "_law_many"] []) (kW : PySem.W.keepIn K (.ref fW) = true) :
    FnOk P w K mg base CX0 2 f fd ["_law_deck_here", "_law_some"] spTurned := by
  refine F.ok scTurned (fun vs H Q E h => ?_) (fun cdv A outer s H vs Q E hr h => ?_)
  · obtain ⟨d, g, a, zs, c, rfl, _⟩ := h
    rfl
  obtain ⟨d, g, a, zs, c, rfl, ha, nd, ng, hz, hD, hc, q⟩ := h
  refine ⟨_, pss_cons (ps_set (i := 2) scTurned.nd rfl (Or.inr rfl) (pe_callTy call_list_of (by rfl) hlist (by decide +kernel) (pa_cons (pv 1) pa_nil)))
    (pss_one (ps_ret (pe_lc (own := [("_law_k", 3)]) (g := gName 3) (tt := tYes) rfl scTurned.nd
        (pi_range1 rfl T.range (pa_cons (pe_callB call_len_seq (by rfl) T.len PySem.boot_len (pa_cons (pv 1) pa_nil)) pa_nil))
        (blkOk_by (N := nTurned) (sc := defScope sTurned) (by decide +kernel)) (fun _ _ _ _ _ => pg_name (i := 3) scTurned.nd rfl (Or.inl rfl)) (fun _ _ _ _ _ => pts_nil)
        (fun _ _ _ _ _ => by exact pe_bm_at (K := K) rfl PySem.F.plainAttrs_list PySem.F.slot_list_pop PySem.F.type_list_pop mt_popAt (pv 2) (pa_cons (pe_call GW hr rfl T.draw kW bW .nil pass0 (pa_cons (pv 0) (pa_cons (pe_callB (len_atK (K := K) rfl) (by rfl) T.len PySem.boot_len (pa_cons (pv 2) pa_nil)) pa_nil))) pa_nil))))), ?_⟩
  refine ⟨_, rfl, a, _, rfl, .inl (SqL.of ha), fun l hl => ?_⟩
  have sl := same_new hl (.lst ((zs.map mkS).map V.str))
  have nl := hD.dn hl
  have el : upd H l (.lst ((zs.map mkS).map V.str)) l = some (.lst ((zs.map mkS).map V.str)) := upd_same
  have hD1 := hD.same sl
  have ha1 := sl _ _ ha
  generalize upd H l (.lst ((zs.map mkS).map V.str)) = H1 at sl el hD1 ha1 ⊢
  have hlen : ((zs.map mkS).map V.str).length = zs.length := by rw [List.length_map, List.length_map]
  refine ⟨_, rfl, a, _, rfl, .inl (SqL.of ha1), _, rfl, by rw [hlen]; omega, by rw [hlen]; omega, fun D hD3 => ?_⟩
  have nD := hD1.dn hD3
  have nlD : l ≠ D := ne_of_none el hD3
  rw [show ((((zs.map mkS).map V.str).length : Nat) : Int).toNat = zs.length by rw [hlen]; omega]
  refine lc_it (walk_range (lo := 0) (n := zs.length)) (fun i H' => ∃ left found : List Wd, H' D = some (.lst ((found.map mkS).map .str)) ∧ H' l = some (.lst ((left.map mkS).map .str)) ∧ (found ++ left).Perm zs ∧ found.length = i ∧ DeckAt (c + i) H' d g ∧ (∀ b o, b ≠ d → b ≠ g → b ≠ l → H1 b = some o → H' b = some o))
    ⟨zs, [], upd_same, by rw [upd_ne nlD]; exact el, List.Perm.refl _, rfl, hD1.same (same_new hD3 _), fun b o _ _ _ e => same_new hD3 _ _ _ e⟩ (fun _ _ _ _ => trivial) ?_ ?_
  · rintro i x H3 H4 hi ⟨left, found, m1, m2, m3, m4, hD4, k4⟩ ⟨rfl, rfl⟩
    have ll : left.length = zs.length - i := by
      have z := m3.length_eq
      rw [List.length_append, m4] at z
      omega
    have hlm : ((left.map mkS).map V.str).length = left.length := by rw [List.length_map, List.length_map]
    refine ⟨rfl, _, rfl, .inl ⟨rfl, _, SqL.of m2⟩, _, rfl, _, rfl, l, _, rfl, .inl (SqL.of m2), d, g, _, c + i, rfl, by rw [hlm]; omega, by rw [hlm]; omega, hD4, by omega, fun r H5 r0 r1 hD5 k5 => ?_⟩
    rw [hlm] at r1
    have hrl : r.toNat < left.length := by omega
    have gx : ((left.map mkS).map V.str)[r.toNat]? = some (V.str (mkS left[r.toNat])) := by rw [List.getElem?_map, List.getElem?_map, List.getElem?_eq_getElem hrl]; rfl
    have m2' := k5 _ _ nl.1 nl.2 m2
    have m1' := k5 _ _ nD.1 nD.2 m1
    refine ⟨l, _, r, r.toNat, _, rfl, rfl, m2', by omega, by omega, by rw [hlm]; exact seqIx r0 r1, gx, ?_⟩
    refine ⟨_, by rw [upd_ne nlD.symm]; exact m1', by rw [List.length_map, List.length_map, m4, sizeLine_eq]; omega, left.eraseIdx r.toNat, found ++ [left[r.toNat]], ?_, ?_, ?_, by rw [List.length_append, m4]; rfl, (hD5.other nl.1 nl.2 _).other nD.1 nD.2 _, fun b o x1 x2 x3 e => ?_⟩
    · rw [upd_same, strs_snoc]
    · rw [upd_ne nlD, upd_same, erase_map, erase_map]
    · rw [List.append_assoc]
      exact (List.Perm.append_left _ (perm_at _ _ _ (List.getElem?_eq_getElem hrl))).trans m3
    · rw [upd_ne (ne_of_none e hD3), upd_ne x3]
      exact k5 b o x1 x2 (k4 b o x1 x2 x3 e)
  · rintro H3 ⟨left, found, m1, m2, m3, m4, hD4, k4⟩
    have l0 : left = [] := by
      have z := m3.length_eq
      rw [List.length_append, m4] at z
      exact List.length_eq_zero_iff.mp (by omega)
    subst l0
    rw [List.append_nil] at m3
    exact q found D H3 m3 nD.1 nD.2 m1 (hD4.le (by omega)) fun b o x1 x2 e => k4 b o x1 x2 (ne_of_none e hl) (sl _ _ e)
end
end Vf

set_option Elab.async false
set_option linter.all false
set_option maxRecDepth 100000
set_option maxHeartbeats 4000000
namespace Vs
open PySem PySem.Spec PySem.Builtin PySem.Builtin.Str PyProof.Rows L2
/-! ### what is left of a text when all signs of another one are taken off its ends -/
theorem sub_size (x : Str) (lo hi : Nat) (h : hi ≤ x.length) : (strSub x lo hi).length = hi - lo := by
  show (x.cps.extract lo hi).size = hi - lo
  have : x.length = x.cps.size := rfl
  rw [Array.size_extract]
  omega
theorem strip_none (x a : Str) : (Txt.stripChars x a).length = 0 ↔ ∀ c ∈ x.cps.toList, c ∈ a.cps.toList := by
  have hn : x.cps.toList.length = x.length := by simp [Str.length]
  obtain ⟨h0, h1, h2⟩ := lo_facts a.cps.contains x
  obtain ⟨g0, g1, g2, _⟩ := hi_facts a.cps.contains x _ h0
  have e : (Txt.stripChars x a).length = stripHi a.cps.contains true x (stripLo a.cps.contains true x) - stripLo a.cps.contains true x := by
    unfold Txt.stripChars
    rw [stripBy_eq, sub_size _ _ _ g1]
  rw [e]
  have key : ∀ k, k < x.length → (x.cps.getD k 0 ∈ x.cps.toList) := fun k hk => by
    rw [← getD_list]
    have hk' : k < x.cps.toList.length := hn.symm ▸ hk
    rw [List.getD_eq_getElem?_getD, List.getElem?_eq_getElem hk']
    exact List.getElem_mem hk'
  constructor
  · intro z c hc
    obtain ⟨k, hk, rfl⟩ := List.mem_iff_getElem.mp hc
    have hg : a.cps.contains (x.cps.getD k 0) = true := by
      by_cases hlt : k < stripLo a.cps.contains true x
      · exact h1 k hlt
      · exact g2 k (by omega) (hn ▸ hk)
    rw [← getD_list, List.getD_eq_getElem?_getD, List.getElem?_eq_getElem hk] at hg
    simpa using hg
  · intro z
    have all : ∀ k, k < x.length → a.cps.contains (x.cps.getD k 0) = true := fun k hk => by
      have := z _ (key k hk)
      simpa using this
    rcases h2 with h | h
    · omega
    · by_cases hl : stripLo a.cps.contains true x < x.length
      · rw [all _ hl] at h
        cases h
      · omega
theorem strip_dec (x a : Str) : decide (V.str (Txt.stripChars x a) = V.str "") = x.cps.toList.all fun c => decide (c ∈ a.cps.toList) := by
  have h := strip_none x a
  by_cases z : ∀ c ∈ x.cps.toList, c ∈ a.cps.toList
  · have e : (Txt.stripChars x a) = "" := by
      have := h.mpr z
      revert this
      generalize Txt.stripChars x a = y
      intro this
      obtain ⟨l⟩ := y
      have : l = #[] := Array.eq_empty_of_size_eq_zero this
      subst this
      rfl
    rw [e, decide_eq_true rfl, eq_comm, List.all_eq_true]
    exact fun c hc => decide_eq_true (z c hc)
  · have e : ¬ V.str (Txt.stripChars x a) = V.str "" := fun q => z (h.mp (by
      have : Txt.stripChars x a = "" := V.str.inj q
      rw [this]
      rfl))
    rw [decide_eq_false e, eq_comm, List.all_eq_false]
    obtain ⟨c, hc⟩ := Classical.not_forall.mp z
    obtain ⟨hc1, hc2⟩ := Classical.not_imp.mp hc
    exact ⟨c, hc1, by simpa using hc2⟩
end Vs

set_option Elab.async false
set_option linter.all false
set_option maxRecDepth 100000
set_option maxHeartbeats 4000000
namespace Vf
open PySem PySem.Spec PyProof.Rows L2 L2.Vx Vs Vm Vd
abbrev sWhole : Stmt := top 1
abbrev sAsc : Stmt := top 2
abbrev sText : Stmt := top 4
abbrev sWordQ : Stmt := top 11
abbrev sWordsQ : Stmt := top 13
/-! ### what a value is, by the program -/
def spAsk (g : PyData → Bool) : Sp := fun vs H Q _ => ∃ (v : V) (D : PyData) (S : Addr → Prop), vs = [v] ∧ Dt H S v D ∧ ∀ H', Same H H' → Q (.bl (g D)) H'
def spText : Sp := fun vs H Q _ => ∃ (sg : Wd) (v : V) (D : PyData) (S : Addr → Prop), vs = [.str (mkS sg), v] ∧ Dt H S v D ∧ wideD 100000 D ∧ ∀ H', Same H H' → Q (.bl (textD sg D)) H'
def spWordQ : Sp := fun vs H Q _ => ∃ (sg : Wd) (n : Int) (v : V) (D : PyData) (S : Addr → Prop), vs = [.str (mkS sg), .int n, v] ∧ Dt H S v D ∧ wideD 100000 D ∧ ∀ H', Same H H' → Q (.bl (wordDB sg n D)) H'
def spAscW : Sp := fun vs H Q _ => ∃ (a : Addr) (xs : List Wd), vs = [.ref a] ∧ H a = some (.tup ((xs.map mkS).map .str)) ∧ xs.length ≤ 100000 ∧ ∀ H', Same H H' → Q (.bl (riseB ltW xs)) H'
structure TxtI (mg : Str → Option Value) : Prop where
  isi : mg "isinstance" = none
  int : mg "int" = none
  bool : mg "bool" = none
  str : mg "str" = none
  tuple : mg "tuple" = none
  len : mg "len" = none
  all : mg "all" = none
  zip : mg "zip" = none
theorem walk_zipT {K : PySem.W.Frag} {a b : Addr} {xs ys : List V} {n : Nat} (hn : n = min xs.length ys.length) : Walk (RZ.ItzT K a b) n (fun H => SqT K H a xs ∧ SqT K H b ys) (YPair (fun i => xs[i]?) (fun i => ys[i]?)) := by
  refine ⟨fun i _ hi q => ⟨xs, ys, xs[i]'(by omega), ys[i]'(by omega), q.1, q.2, List.getElem?_eq_getElem _, List.getElem?_eq_getElem _⟩, fun _ q => ⟨xs, ys, q.1, q.2, by omega⟩, fun i H v H' _ q z => ?_⟩
  obtain ⟨T, x, y, h1, h2, h3, h4, h5⟩ := z
  exact ⟨T, x, y, h1, h2, h3, h4 xs q.1, h5 ys q.2⟩
theorem cutV1 (xs : List V) : cutV xs (some 1) none = xs.drop 1 := by
  unfold cutV
  rw [show HT.sIx xs.length 0 (some 1) = min 1 xs.length from HT.sIx_nat xs.length 0 1, HT.sIx_none]
  cases xs with
  | nil => rfl
  | cons x r =>
    rw [show min 1 (x :: r).length = 1 by rw [List.length_cons]; omega]
    exact List.take_of_length_le (by rw [List.length_drop]; exact Nat.le_refl _)
theorem str_atW {ks : List Wd} {i : Nat} {y : V} (h : ((ks.map mkS).map V.str)[i]? = some y) : ∃ p, ks[i]? = some p ∧ y = .str (mkS p) := by
  rw [List.getElem?_map, List.getElem?_map] at h
  cases e : ks[i]? with
  | none => rw [e] at h; cases h
  | some p => rw [e] at h; exact ⟨p, rfl, (Option.some.inj h).symm⟩
/-- the neighbours so far -/
def risen {α : Type} (lt : α → α → Bool) (xs : List α) (i : Nat) : List Bool := ((xs.zip (xs.drop 1)).take i).map fun p => lt p.1 p.2
theorem risen_next {α : Type} {lt : α → α → Bool} {xs : List α} {i : Nat} {p q : α} (hp : xs[i]? = some p) (hq : xs[i + 1]? = some q) : risen lt xs (i + 1) = risen lt xs i ++ [lt p q] := by
  unfold risen
  have e : (xs.zip (xs.drop 1))[i]? = some (p, q) := by
    rw [List.getElem?_zip_eq_some]
    refine ⟨hp, ?_⟩
    rw [List.getElem?_drop, Nat.add_comm]
    exact hq
  rw [List.take_add_one, e, List.map_append]
  rfl
theorem risen_all {α : Type} {lt : α → α → Bool} {xs : List α} : (risen lt xs (xs.length - 1)).all id = riseB lt xs := by
  unfold risen riseB
  rw [List.take_of_length_le (by rw [List.length_zip, List.length_drop]; omega), List.all_map]
  rfl
theorem risen_len {α : Type} {lt : α → α → Bool} {xs : List α} {i : Nat} : (risen lt xs i).length ≤ i := by
  unfold risen
  rw [List.length_map, List.length_take]
  omega
section
variable {P : Program} {w : World} {K : PySem.W.Frag} {mg : Str → Option Value} {base : Heap}
theorem scWhole : FnScope ["thing"] ["thing"] (defScope sWhole) := ⟨rfl, rfl, rfl, by decide +kernel, rfl, by decide +kernel, by decide +kernel⟩
theorem ok_whole {f : Addr} {fd : FuncData} (F : Fun K "is_whole" "is_whole" sWhole f fd) (T : TxtI mg) : FnOk P w K mg base CX0 1 f fd ["thing"] (spAsk isInt) := by
  refine F.ok scWhole (fun vs H Q E h => ?_) (fun cdv A outer s H vs Q E hr h => ?_)
  · obtain ⟨v, D, S, rfl, _⟩ := h
    rfl
  obtain ⟨v, D, S, rfl, hd, q⟩ := h
  refine ⟨_, pss_one (ps_ret (pe_and (pe_callB call_isi (by rfl) T.isi (by decide +kernel) (pa_cons (pv 0) (pa_cons (pe_bltn (v := .ty "int") (u := .type "int") (by rfl) T.int (by decide +kernel) rfl) pa_nil)))
      (pe_one (pe_not (pe_callB call_isi (by rfl) T.isi (by decide +kernel) (pa_cons (pv 0) (pa_cons (pe_bltn (v := .ty "bool") (u := .type "bool") (by rfl) T.bool (by decide +kernel) rfl) pa_nil))))))), ?_⟩
  have t := dt_ty (K := K) hd
  have q' := q H (Same.refl H)
  refine ⟨_, rfl, _, _, _, _, _, rfl, .ty _, t, kit_D D (.inl rfl), _, rfl, ?_⟩
  cases D <;> first
    | exact q'
    | exact ⟨_, rfl, _, _, _, _, _, rfl, .ty _, t, kit_D _ (.inr (.inl rfl)), _, rfl, q'⟩
theorem scText : FnScope ["letters", "thing"] ["letters", "thing"] (defScope sText) := ⟨rfl, rfl, rfl, by decide +kernel, rfl, by decide +kernel, by decide +kernel⟩
theorem ok_text {f : Addr} {fd : FuncData} (F : Fun K "is_text" "is_text" sText f fd) (T : TxtI mg) : FnOk P w K mg base CX0 1 f fd ["letters", "thing"] spText := by
  refine F.ok scText (fun vs H Q E h => ?_) (fun cdv A outer s H vs Q E hr h => ?_)
  · obtain ⟨sg, v, D, S, rfl, _⟩ := h
    rfl
  obtain ⟨sg, v, D, S, rfl, hd, hw, q⟩ := h
  refine ⟨_, pss_one (ps_ret (pe_and (pe_callB call_isi (by rfl) T.isi (by decide +kernel) (pa_cons (pv 1) (pa_cons (pe_bltn (v := .ty "str") (u := .type "str") (by rfl) T.str (by decide +kernel) rfl) pa_nil)))
      (pe_one (pe_cmpR op_eq (pe_bm PySem.F.plainAttrs_str PySem.F.slot_str_strip PySem.F.type_str_strip mt_stripChars (pv 1) (pa_cons (pv 0) pa_nil)) pe_str (nomark _))))), ?_⟩
  refine ⟨_, rfl, _, _, _, _, _, rfl, .ty _, dt_ty hd, kit_D D (.inr (.inr (.inl rfl))), _, rfl, ?_⟩
  rw [isD_str]
  have q' := q H (Same.refl H)
  cases D with
  | str x =>
    obtain rfl := dt_str hd
    have hx : x.length ≤ 100000 := hw
    refine ⟨_, rfl, rfl, _, rfl, _, _, rfl, rfl, Nat.le_trans hx (by decide), rfl, ?_⟩
    have e : decide (V.str (Txt.stripChars x (mkS sg)) = V.str "") = textD sg (.str x) := by
      rw [strip_dec, mkS_cps]
      rfl
    show Q (.bl (decide (V.str (Txt.stripChars x (mkS sg)) = V.str ""))) H
    rw [e]
    exact q'
  | none => exact q'
  | bool _ => exact q'
  | int _ => exact q'
  | list _ => exact q'
  | tuple _ => exact q'
  | dict _ => exact q'
theorem scAsc : FnScope ["things", "one", "other"] ["things"] (defScope sAsc) := ⟨rfl, rfl, rfl, by decide +kernel, rfl, by decide +kernel, by decide +kernel⟩
theorem ok_ascW {f : Addr} {fd : FuncData} (F : Fun K "is_ascending" "is_ascending" sAsc f fd) (T : TxtI mg) : FnOk P w K mg base CX0 1 f fd ["things"] spAscW := by
  refine F.ok scAsc (fun vs H Q E h => ?_) (fun cdv A outer s H vs Q E hr h => ?_)
  · obtain ⟨a, xs, rfl, _⟩ := h
    rfl
  obtain ⟨a, xs, rfl, hx, hn, q⟩ := h
  refine ⟨_, pss_one (ps_ret (pe_callB (cr_all rfl) (by rfl) T.all (by decide +kernel) (pa_cons (pe_lc (own := [("one", 1), ("other", 2)]) (g := gTup K 2 (gCons (gName 1) (gCons (gName 2) gNil))) (tt := tYes) rfl scAsc.nd
      (RZ.pi_zipA (by rfl) T.zip (pa_cons (pv 0) (pa_cons (pe_slice sl_tupA (pv 0) (po_some pe_int) po_none) pa_nil)))
      (blkOk_by (N := ["things", "one", "other"]) (sc := defScope sAsc) (by decide +kernel)) (fun _ _ _ _ _ => pg_tup rfl (pgs_cons (pg_name (i := 1) scAsc.nd rfl (Or.inl rfl)) (pgs_cons (pg_name (i := 2) scAsc.nd rfl (Or.inl rfl)) pgs_nil))) (fun _ _ _ _ _ => pts_nil)
      (fun _ _ _ _ _ => pe_cmpR op_lt_str (pv 1) (pv 2) (nomark _))) pa_nil))), ?_⟩
  have key : ∀ (H1 : Hp) (b : Addr), Same H H1 → H1 b = some (.tup (((xs.map mkS).map V.str).drop 1)) → ∀ D, H1 D = none →
      ∀ (i : Nat) (v : V) (H2 H3 : Hp), i < xs.length - 1 → H2 D = some (.lst ((risen ltW xs i).map V.bl)) → Same H1 H2 → YPair (fun i => ((xs.map mkS).map V.str)[i]?) (fun i => (((xs.map mkS).map V.str).drop 1)[i]?) i H2 v H3 →
      ∃ T p q, v = .ref T ∧ H2 T = none ∧ H3 = upd H2 T (.tup [.str (mkS p), .str (mkS q)]) ∧ xs[i]? = some p ∧ xs[i + 1]? = some q := by
    rintro H1 b s1 hb D hD i v H2 H3 hi hv sm ⟨T, x, y, rfl, hT, rfl, hc, hd⟩
    have hd' : (((xs.map mkS).map V.str).drop 1)[i]? = some y := hd
    rw [List.getElem?_drop, Nat.add_comm] at hd'
    obtain ⟨p, hp, rfl⟩ := str_atW hc
    obtain ⟨q, hq, rfl⟩ := str_atW hd'
    exact ⟨T, p, q, rfl, hT, rfl, hp, hq⟩
  refine ⟨_, rfl, _, rfl, _, rfl, a, (xs.map mkS).map V.str, rfl, SqT.of hx, fun hw => ?_, fun hw p hp => ?_⟩
  · have hz : (xs.map mkS).map V.str = ((xs.map mkS).map V.str).drop 1 := by
      have z := hw.1
      rw [show HT.sIx ((xs.map mkS).map V.str).length 0 (some 1) = min 1 ((xs.map mkS).map V.str).length from HT.sIx_nat _ 0 1] at z
      cases xs with
      | nil => rfl
      | cons x r => rw [List.length_map, List.length_map, List.length_cons] at z; omega
    have hy := hx
    rw [hz] at hy
    refine ⟨a, a, _, _, rfl, .inr ⟨SqT.of hx, SqT.of hy, fun D hD => ?_⟩⟩
    refine lc_it (walk_zipT (n := xs.length - 1) (by rw [List.length_drop, List.length_map, List.length_map]; omega)) (fun i H' => H' D = some (.lst ((risen ltW xs i).map V.bl)) ∧ Same H H') ⟨upd_same, same_new hD _⟩ (fun i H' _ ⟨_, s'⟩ => ⟨SqT.of (s' _ _ hx), SqT.of (s' _ _ hy)⟩) ?_ ?_
    · rintro i v H2 H3 hi ⟨hv, sm⟩ hY
      obtain ⟨T, p, q, rfl, hT, rfl, hp, hq⟩ := key H a (Same.refl H) hy D hD i v H2 H3 hi hv sm hY
      refine ⟨T, _, rfl, SqT.of upd_same, rfl, _, _, rfl, _, _, rfl, rfl, rfl, _, rfl, _, rfl, _, _, rfl, rfl, _, (upd_ne (ne_of_none hv hT)).trans hv, ?_, ?_, fun b o e => ?_⟩
      · rw [List.length_map, sizeLine_eq]
        have := risen_len (lt := ltW) (xs := xs) (i := i)
        omega
      · rw [upd_same, risen_next hp hq, List.map_append, mkS_cps, mkS_cps]
        rfl
      · rw [upd_ne (ne_of_none e hD)]
        exact (sm.trans (same_new hT _)) b o e
    · rintro H2 ⟨hv, sm⟩
      refine ⟨_, _, rfl, SqL.of hv, ?_⟩
      rw [risen_all]
      exact q _ sm
  · have hy : upd H p (.tup (cutV ((xs.map mkS).map V.str) (some 1) none)) p = some (.tup (((xs.map mkS).map V.str).drop 1)) := by rw [upd_same, cutV1]
    have sm0 := same_new hp (.tup (cutV ((xs.map mkS).map V.str) (some 1) none))
    have hx' := sm0 _ _ hx
    generalize upd H p (.tup (cutV ((xs.map mkS).map V.str) (some 1) none)) = H1 at hy sm0 hx' ⊢
    refine ⟨a, p, _, _, rfl, .inr ⟨SqT.of hx', SqT.of hy, fun D hD => ?_⟩⟩
    refine lc_it (walk_zipT (n := xs.length - 1) (by rw [List.length_drop, List.length_map, List.length_map]; omega)) (fun i H' => H' D = some (.lst ((risen ltW xs i).map V.bl)) ∧ Same H1 H') ⟨upd_same, same_new hD _⟩ (fun i H' _ ⟨_, s'⟩ => ⟨SqT.of (s' _ _ hx'), SqT.of (s' _ _ hy)⟩) ?_ ?_
    · rintro i v H2 H3 hi ⟨hv, sm⟩ hY
      obtain ⟨T, p, q, rfl, hT, rfl, hp, hq⟩ := key H1 p sm0 hy D hD i v H2 H3 hi hv sm hY
      refine ⟨T, _, rfl, SqT.of upd_same, rfl, _, _, rfl, _, _, rfl, rfl, rfl, _, rfl, _, rfl, _, _, rfl, rfl, _, (upd_ne (ne_of_none hv hT)).trans hv, ?_, ?_, fun b o e => ?_⟩
      · rw [List.length_map, sizeLine_eq]
        have := risen_len (lt := ltW) (xs := xs) (i := i)
        omega
      · rw [upd_same, risen_next hp hq, List.map_append, mkS_cps, mkS_cps]
        rfl
      · rw [upd_ne (ne_of_none e hD)]
        exact (sm.trans (same_new hT _)) b o e
    · rintro H2 ⟨hv, sm⟩
      refine ⟨_, _, rfl, SqL.of hv, ?_⟩
      rw [risen_all]
      exact q _ (sm0.trans sm)
end
end Vf

set_option Elab.async false
set_option linter.all false
set_option maxRecDepth 100000
set_option maxHeartbeats 4000000
namespace Vf
open PySem PySem.Spec PyProof.Rows L2 L2.Vx Vs Vm Vd
/-! ### words of a length, ascending -/
def spWordsQ : Sp := fun vs H Q _ => ∃ (sg : Wd) (n : Int) (v : V) (D : PyData) (S : Addr → Prop), vs = [.str (mkS sg), .int n, v] ∧ Dt H S v D ∧ wideD 100000 D ∧ ∀ H', Same H H' → Q (.bl (wordsB sg n D)) H'
theorem words_strs {sg : Wd} {n : Int} {ds : List PyData} (h : ds.all (wordDB sg n) = true) : ds.all strD = true := by
  rw [List.all_eq_true] at h ⊢
  intro d hd
  have e := h d hd
  unfold wordDB at e
  rw [Bool.and_eq_true] at e
  exact text_str e.1
section
variable {P : Program} {w : World} {K : PySem.W.Frag} {mg : Str → Option Value} {base : Heap}
theorem scWordQ : FnScope ["letters", "length", "thing"] ["letters", "length", "thing"] (defScope sWordQ) := ⟨rfl, rfl, rfl, by decide +kernel, rfl, by decide +kernel, by decide +kernel⟩
theorem ok_wordQ {f fT : Addr} {fd fdT : FuncData} (F : Fun K "is_word" "is_word" sWordQ f fd) (T : TxtI mg)
    (GT : FnOk P w K mg base CX0 1 fT fdT ["letters", "thing"] spText) (bT : Binds K fdT ["letters", "thing"] []) (kT : PySem.W.keepIn K (.ref fT) = true) (mT : mg "is_text" = some (.ref fT)) :
    FnOk P w K mg base CX0 2 f fd ["letters", "length", "thing"] spWordQ := by
  refine F.ok scWordQ (fun vs H Q E h => ?_) (fun cdv A outer s H vs Q E hr h => ?_)
  · obtain ⟨sg, n, v, D, S, rfl, _⟩ := h
    rfl
  obtain ⟨sg, n, v, D, S, rfl, hd, hw, q⟩ := h
  refine ⟨_, pss_one (ps_ret (pe_and (pe_call GT hr rfl mT kT bT .nil pass0 (pa_cons (pv 0) (pa_cons (pv 2) pa_nil))) (pe_one (pe_cmpR op_eq (pe_callB call_len_str (by rfl) T.len PySem.boot_len (pa_cons (pv 2) pa_nil)) (pv 1) (by rfl))))), ?_⟩
  refine ⟨_, rfl, _, rfl, sg, v, D, S, rfl, hd, hw, fun H1 s1 => ⟨_, rfl, ?_⟩⟩
  have q' := q H1 s1
  refine ite2 (fun c => ?_) (fun c => ?_)
  · cases D with
    | str x =>
      obtain rfl := dt_str hd
      have hx : x.length ≤ 100000 := hw
      refine ⟨_, rfl, x, rfl, by rw [sizeLine_eq]; omega, _, rfl, rfl, ?_⟩
      have e : wordDB sg n (.str x) = decide (V.int (x.length : Nat) = V.int n) := by
        unfold wordDB
        rw [c, Bool.true_and, Bool.eq_iff_iff, decide_eq_true_iff, decide_eq_true_iff]
        show ((x.cps.toList.length : Nat) : Int) = n ↔ _
        rw [Array.length_toList]
        exact ⟨fun z => congrArg V.int z, fun z => V.int.inj z⟩
      rw [← e]
      exact q'
    | _ => exact absurd c (by intro z; cases z)
  · have e : wordDB sg n D = false := by
      unfold wordDB
      cases z : textD sg D with
      | false => rfl
      | true => exact absurd z c
    rw [e] at q'
    exact q'
abbrev nWordsQ : List Str := ["letters", "length", "thing", "word"]
theorem scWordsQ : FnScope nWordsQ ["letters", "length", "thing"] (defScope sWordsQ) := ⟨rfl, rfl, rfl, by decide +kernel, rfl, by decide +kernel, by decide +kernel⟩
theorem ok_wordsQ {f fW fA : Addr} {fd fdW fdA : FuncData} (F : Fun K "is_words" "is_words" sWordsQ f fd) (T : TxtI mg)
    (GW : FnOk P w K mg base CX0 2 fW fdW ["letters", "length", "thing"] spWordQ) (bW : Binds K fdW ["letters", "length", "thing"] []) (kW : PySem.W.keepIn K (.ref fW) = true) (mW : mg "is_word" = some (.ref fW))
    (GA : FnOk P w K mg base CX0 1 fA fdA ["things"] spAscW) (bA : Binds K fdA ["things"] []) (kA : PySem.W.keepIn K (.ref fA) = true) (mA : mg "is_ascending" = some (.ref fA)) :
    FnOk P w K mg base CX0 3 f fd ["letters", "length", "thing"] spWordsQ := by
  refine F.ok scWordsQ (fun vs H Q E h => ?_) (fun cdv A outer s H vs Q E hr h => ?_)
  · obtain ⟨sg, n, v, D, S, rfl, _⟩ := h
    rfl
  obtain ⟨sg, n, v, D, S, rfl, hd, hw, q⟩ := h
  have hr1 : Room 1 _ := hr.mono (by decide)
  refine ⟨_, pss_one (ps_ret (pe_and (pe_callB call_isi (by rfl) T.isi (by decide +kernel) (pa_cons (pv 2) (pa_cons (pe_bltn (v := .ty "tuple") (u := .type "tuple") (by rfl) T.tuple (by decide +kernel) rfl) pa_nil)))
      (pe_and (pe_callB (cr_all rfl) (by rfl) T.all (by decide +kernel) (pa_cons (pe_lc (own := [("word", 3)]) (g := gName 3) (tt := tYes) rfl scWordsQ.nd (pi_tup (pv 2))
        (blkOk_by (N := nWordsQ) (sc := defScope sWordsQ) (by decide +kernel)) (fun _ _ _ _ _ => pg_name (i := 3) scWordsQ.nd rfl (Or.inl rfl)) (fun _ _ _ _ _ => pts_nil)
        (fun _ _ _ _ _ => by exact pe_call GW hr rfl mW kW bW .nil pass0 (pa_cons (pv 0) (pa_cons (pv 1) (pa_cons (pv 3) pa_nil))))) pa_nil))
      (pe_one (pe_call GA hr1 rfl mA kA bA .nil pass0 (pa_cons (pv 2) pa_nil)))))), ?_⟩
  refine ⟨_, rfl, _, _, _, _, _, rfl, .ty _, dt_ty hd, kit_D D (.inr (.inr (.inr rfl))), _, rfl, ?_⟩
  have q' := q H (Same.refl H)
  refine ite2 (fun c => ?_) (fun c => ?_)
  rotate_left
  · have e : wordsB sg n D = false := by
      cases D with
      | tuple ds => exact absurd ((isD_tup _).mpr ⟨ds, rfl⟩) c
      | _ => rfl
    rw [e] at q'
    exact q'
  obtain ⟨ds, rfl⟩ := (isD_tup D).mp c
  obtain ⟨a, xs, rfl, ea, _, da⟩ := dt_tup hd
  have hl := dtA_len da
  obtain ⟨wl, wr⟩ : ds.length ≤ 100000 ∧ wideDs 100000 ds := by
    unfold wideD at hw
    exact hw
  refine ⟨_, rfl, a, rfl, ⟨xs, SqT.of ea⟩, fun D hD => ?_⟩
  refine lc_it walk_tup (fun i H' => H' D = some (.lst (((ds.take i).map (wordDB sg n)).map V.bl)) ∧ Same H H') ⟨upd_same, same_new hD _⟩ (fun i H' _ ⟨_, s'⟩ => SqT.of (s' _ _ ea)) ?_ ?_
  · rintro i v H1 H2 hi ⟨hv, sm⟩ ⟨rfl, hx⟩
    obtain ⟨d, hdd, dd⟩ := dtA_at da hx
    refine ⟨rfl, _, rfl, _, rfl, _, rfl, sg, n, v, d, S, rfl, dt_same dd sm, wide_mem wr d (List.mem_of_getElem? hdd), fun H' s' => ⟨_, s' _ _ hv, ?_, ?_, fun b o e => ?_⟩⟩
    · rw [List.length_map, List.length_map, List.length_take, sizeLine_eq]
      omega
    · rw [upd_same, List.take_add_one, hdd, List.map_append, List.map_append]
      rfl
    · rw [upd_ne (ne_of_none e hD)]
      exact s' _ _ (sm b o e)
  · rintro H1 ⟨hv, sm⟩
    rw [hl, List.take_length] at hv
    refine ⟨D, _, rfl, SqL.of hv, _, rfl, ?_⟩
    have eall : (ds.map (wordDB sg n)).all id = ds.all (wordDB sg n) := by rw [List.all_map]; rfl
    rw [eall]
    have g := q H1 sm
    refine ite2 (fun e => ?_) (fun e => ?_)
    · have ex := dtA_strs da (words_strs e)
      rw [ex] at ea
      refine ⟨_, rfl, a, ds.map wdOf, rfl, sm _ _ ea, by rw [List.length_map]; exact wl, fun H' s' => ?_⟩
      have g' := q H' (sm.trans s')
      have ew : wordsB sg n (.tuple ds) = riseB ltW (ds.map wdOf) := by
        show (ds.all (wordDB sg n) && _) = _
        rw [e, Bool.true_and]
      rw [ew] at g'
      exact g'
    · have ew : wordsB sg n (.tuple ds) = false := by
        show (ds.all (wordDB sg n) && _) = _
        cases z : ds.all (wordDB sg n) with
        | false => rfl
        | true => exact absurd z e
      rw [ew] at g
      exact g
end
end Vf

set_option Elab.async false
set_option linter.all false
set_option maxRecDepth 100000
set_option maxHeartbeats 4000000
namespace Vf
open PySem PySem.Spec PyProof.Rows L2 L2.Vx Vs Vm Vd
abbrev sShort : Stmt := top 14
/-! ### shorter ones, by length and text -/
def PairsAt (H : Hp) (vs : List V) (xs : List Wd) : Prop := vs.length = xs.length ∧ ∀ (i : Nat) (v : V), vs[i]? = some v → ∃ (t : Addr) (p : Wd), v = .ref t ∧ xs[i]? = some p ∧ H t = some (.tup [.int (p.length : Nat), .str (mkS p)])
def spAscP : Sp := fun vs H Q _ => ∃ (a : Addr) (us : List V) (xs : List Wd), vs = [.ref a] ∧ H a = some (.lst us) ∧ PairsAt H us xs ∧ xs.length ≤ 100000 ∧ ∀ H', Same H H' → Q (.bl (riseB ltP xs)) H'
def spShortQ : Sp := fun vs H Q _ => ∃ (sg : Wd) (n : Int) (v : V) (D : PyData) (S : Addr → Prop), vs = [.str (mkS sg), .int n, v] ∧ Dt H S v D ∧ wideD 100000 D ∧ ∀ H', Same H H' → Q (.bl (shorterB sg n D)) H'
theorem if_fl {A B : Prop} {c : Bool} (e : c = false) (h : B) : if c = true then A else B := by
  rw [e]
  exact h
theorem texts_strs {sg : Wd} {ds : List PyData} (h : ds.all (textD sg) = true) : ds.all strD = true := by
  rw [List.all_eq_true] at h ⊢
  exact fun d hd => text_str (h d hd)
section
variable {P : Program} {w : World} {K : PySem.W.Frag} {mg : Str → Option Value} {base : Heap}
theorem ok_ascP {f : Addr} {fd : FuncData} (F : Fun K "is_ascending" "is_ascending" sAsc f fd) (T : TxtI mg) : FnOk P w K mg base CX0 1 f fd ["things"] spAscP := by
  refine F.ok scAsc (fun vs H Q E h => ?_) (fun cdv A outer s H vs Q E hr h => ?_)
  · obtain ⟨a, us, xs, rfl, _⟩ := h
    rfl
  obtain ⟨a, us, xs, rfl, hx, ⟨hl, hp⟩, hn, q⟩ := h
  refine ⟨_, pss_one (ps_ret (pe_callB (cr_all rfl) (by rfl) T.all (by decide +kernel) (pa_cons (pe_lc (own := [("one", 1), ("other", 2)]) (g := gTup K 2 (gCons (gName 1) (gCons (gName 2) gNil))) (tt := tYes) rfl scAsc.nd
      (pi_zip (by rfl) T.zip (pa_cons (pv 0) (pa_cons (pe_slice sl_list (pv 0) (po_some pe_int) po_none) pa_nil)))
      (blkOk_by (N := ["things", "one", "other"]) (sc := defScope sAsc) (by decide +kernel)) (fun _ _ _ _ _ => pg_tup rfl (pgs_cons (pg_name (i := 1) scAsc.nd rfl (Or.inl rfl)) (pgs_cons (pg_name (i := 2) scAsc.nd rfl (Or.inl rfl)) pgs_nil))) (fun _ _ _ _ _ => pts_nil)
      (fun _ _ _ _ _ => by exact pe_cmpR (ltDat_at rfl hr.units) (pv 1) (pv 2) (nomark _))) pa_nil))), ?_⟩
  refine ⟨_, rfl, _, rfl, _, rfl, a, us, rfl, SqL.of hx, fun p2 hp2 => ?_⟩
  rw [cutV1]
  have s0 := same_new hp2 (.lst (us.drop 1))
  have e2 : upd H p2 (.lst (us.drop 1)) p2 = some (.lst (us.drop 1)) := upd_same
  have hx' := s0 _ _ hx
  generalize upd H p2 (.lst (us.drop 1)) = H1 at s0 e2 hx' ⊢
  refine ⟨a, p2, _, _, rfl, SqL.of hx', SqL.of e2, fun D hD => ?_⟩
  refine lc_it (walk_zip (n := xs.length - 1) (xs := us) (ys := us.drop 1) (by rw [List.length_drop, hl]; omega)) (fun i H' => H' D = some (.lst ((risen ltP xs i).map V.bl)) ∧ Same H1 H') ⟨upd_same, same_new hD _⟩ (fun i H' _ ⟨_, s'⟩ => ⟨SqL.of (s' _ _ hx'), SqL.of (s' _ _ e2)⟩) ?_ ?_
  · rintro i v H2 H3 hi ⟨hv, sm⟩ ⟨T', x, y, rfl, hT, rfl, hc, hd⟩
    have hd' : (us.drop 1)[i]? = some y := hd
    rw [List.getElem?_drop, Nat.add_comm] at hd'
    obtain ⟨t1, p, rfl, hp1, ep⟩ := hp i x hc
    obtain ⟨t2, q2, rfl, hq1, eq⟩ := hp (i + 1) y hd'
    have sT := same_new hT (.tup [V.ref t1, V.ref t2])
    have ep' := sT _ _ (sm _ _ (s0 _ _ ep))
    have eq' := sT _ _ (sm _ _ (s0 _ _ eq))
    refine ⟨T', _, rfl, SqT.of upd_same, rfl, _, _, rfl, _, _, rfl, rfl, rfl, _, rfl, _, rfl, pairP p, pairP q2, .tup (SqT.of ep') (.cons (.int _) (.cons (.str _) .nil)), .tup (SqT.of eq') (.cons (.int _) (.cons (.str _) .nil)), alike_pair p q2, (by intro z; cases z), ?_, ?_⟩
    · unfold pairP
      simp [PyData.depth, PyData.depthAll]
    rw [lt_pair]
    refine ⟨_, (upd_ne (ne_of_none hv hT)).trans hv, ?_, ?_, fun b o e => ?_⟩
    · rw [List.length_map, sizeLine_eq]
      have := risen_len (lt := ltP) (xs := xs) (i := i)
      omega
    · rw [upd_same, risen_next hp1 hq1, List.map_append]
      rfl
    · rw [upd_ne (ne_of_none e hD)]
      exact (sm.trans sT) b o e
  · rintro H2 ⟨hv, sm⟩
    refine ⟨_, _, rfl, SqL.of hv, ?_⟩
    rw [risen_all]
    exact q _ (s0.trans sm)
abbrev nShort : List Str := ["letters", "width", "thing", "text"]
theorem scShort : FnScope nShort ["letters", "width", "thing"] (defScope sShort) := ⟨rfl, rfl, rfl, by decide +kernel, rfl, by decide +kernel, by decide +kernel⟩
theorem ok_shortQ {f fT fA : Addr} {fd fdT fdA : FuncData} (F : Fun K "is_shorter_ones" "is_shorter_ones" sShort f fd) (T : TxtI mg)
    (GT : FnOk P w K mg base CX0 1 fT fdT ["letters", "thing"] spText) (bT : Binds K fdT ["letters", "thing"] []) (kT : PySem.W.keepIn K (.ref fT) = true) (mT : mg "is_text" = some (.ref fT))
    (GA : FnOk P w K mg base CX0 1 fA fdA ["things"] spAscP) (bA : Binds K fdA ["things"] []) (kA : PySem.W.keepIn K (.ref fA) = true) (mA : mg "is_ascending" = some (.ref fA)) :
    FnOk P w K mg base CX0 2 f fd ["letters", "width", "thing"] spShortQ := by
  refine F.ok scShort (fun vs H Q E h => ?_) (fun cdv A outer s H vs Q E hr h => ?_)
  · obtain ⟨sg, n, v, D, S, rfl, _⟩ := h
    rfl
  obtain ⟨sg, n, v, D, S, rfl, hd, hw, q⟩ := h
  refine ⟨_, pss_cons (ps_if (PW.pt (pw_or (pt_not (pt_val (pe_callB call_isi (by rfl) T.isi (by decide +kernel) (pa_cons (pv 2) (pa_cons (pe_bltn (v := .ty "tuple") (u := .type "tuple") (by rfl) T.tuple (by decide +kernel) rfl) pa_nil)))))
        (pw_or1 (pt_not (pt_val (pe_callB (cr_all rfl) (by rfl) T.all (by decide +kernel) (pa_cons (pe_lc (own := [("text", 3)]) (g := gName 3) (tt := tYes) rfl scShort.nd (pi_tup (pv 2))
          (blkOk_by (N := nShort) (sc := defScope sShort) (by decide +kernel)) (fun _ _ _ _ _ => pg_name (i := 3) scShort.nd rfl (Or.inl rfl)) (fun _ _ _ _ _ => pts_nil)
          (fun _ _ _ _ _ => by exact pe_call GT hr rfl mT kT bT .nil pass0 (pa_cons (pv 0) (pa_cons (pv 3) pa_nil)))) pa_nil))))))) (pss_one (ps_ret pe_bl)) pss_nil)
    (pss_one (ps_ret (pe_and (pe_callB (cr_all rfl) (by rfl) T.all (by decide +kernel) (pa_cons (pe_lc (own := [("text", 3)]) (g := gName 3) (tt := tYes) rfl scShort.nd (pi_tup (pv 2))
          (blkOk_by (N := nShort) (sc := defScope sShort) (by decide +kernel)) (fun _ _ _ _ _ => pg_name (i := 3) scShort.nd rfl (Or.inl rfl)) (fun _ _ _ _ _ => pts_nil)
          (fun _ _ _ _ _ => by exact pe_cmpR op_lt (pe_callB call_len_str (by rfl) T.len PySem.boot_len (pa_cons (pv 3) pa_nil)) (pv 1) (nomark _))) pa_nil))
      (pe_one (pe_call GA hr rfl mA kA bA .nil pass0 (pa_cons (pe_lc (own := [("text", 3)]) (g := gName 3) (tt := tYes) rfl scShort.nd (pi_tup (pv 2))
          (blkOk_by (N := nShort) (sc := defScope sShort) (by decide +kernel)) (fun _ _ _ _ _ => pg_name (i := 3) scShort.nd rfl (Or.inl rfl)) (fun _ _ _ _ _ => pts_nil)
          (fun _ _ _ _ _ => by exact pe_tup (pa_cons (pe_callB call_len_str (by rfl) T.len PySem.boot_len (pa_cons (pv 3) pa_nil)) (pa_cons (pv 3) pa_nil)))) pa_nil)))))), ?_⟩
  have q' := q H (Same.refl H)
  refine ⟨_, rfl, _, _, _, _, _, rfl, .ty _, dt_ty hd, kit_D D (.inr (.inr (.inr rfl))), _, rfl, ?_⟩
  by_cases c : isD "tuple" D = true
  rotate_left
  · have e : shorterB sg n D = false := by
      cases D with
      | tuple ds => exact absurd ((isD_tup _).mpr ⟨ds, rfl⟩) c
      | _ => rfl
    rw [e] at q'
    rw [show isD "tuple" D = false from Bool.eq_false_iff.mpr c]
    exact q'
  obtain ⟨ds, rfl⟩ := (isD_tup D).mp c
  rw [c]
  obtain ⟨a, xs, rfl, ea, _, da⟩ := dt_tup hd
  have hl := dtA_len da
  obtain ⟨wl, wr⟩ : ds.length ≤ 100000 ∧ wideDs 100000 ds := by
    unfold wideD at hw
    exact hw
  refine if_fl rfl ?_
  refine ⟨_, rfl, a, rfl, ⟨xs, SqT.of ea⟩, fun D hD => ?_⟩
  refine lc_it walk_tup (fun i H' => H' D = some (.lst (((ds.take i).map (textD sg)).map V.bl)) ∧ Same H H') ⟨upd_same, same_new hD _⟩ (fun i H' _ ⟨_, s'⟩ => SqT.of (s' _ _ ea)) ?_ ?_
  · rintro i v H1 H2 hi ⟨hv, sm⟩ ⟨rfl, hx⟩
    obtain ⟨d, hdd, dd⟩ := dtA_at da hx
    refine ⟨rfl, _, rfl, _, rfl, sg, v, d, S, rfl, dt_same dd sm, wide_mem wr d (List.mem_of_getElem? hdd), fun H' s' => ⟨_, s' _ _ hv, ?_, ?_, fun b o e => ?_⟩⟩
    · rw [List.length_map, List.length_map, List.length_take, sizeLine_eq]
      omega
    · rw [upd_same, List.take_add_one, hdd, List.map_append, List.map_append]
      rfl
    · rw [upd_ne (ne_of_none e hD)]
      exact s' _ _ (sm b o e)
  rintro H1 ⟨hv, sm⟩
  rw [hl, List.take_length] at hv
  have eall : (ds.map (textD sg)).all id = ds.all (textD sg) := by rw [List.all_map]; rfl
  refine ⟨D, _, rfl, SqL.of hv, _, rfl, ?_⟩
  rw [eall]
  by_cases c1 : ds.all (textD sg) = true
  rotate_left
  · have e1 : ds.all (textD sg) = false := Bool.eq_false_iff.mpr c1
    have ew : shorterB sg n (.tuple ds) = false := by
      show (ds.all (textD sg) && _) = _
      rw [e1, Bool.false_and]
    have g := q H1 sm
    rw [ew] at g
    rw [e1]
    exact g
  rw [c1]
  refine if_fl rfl ?_
  have ex := dtA_strs da (texts_strs c1)
  have hlen : ∀ w ∈ ds.map wdOf, w.length ≤ 100000 := by
    intro w hw'
    obtain ⟨d, hd', rfl⟩ := List.mem_map.mp hw'
    have z := wide_mem wr d hd'
    cases d with
    | str x =>
      show x.cps.toList.length ≤ _
      rw [Array.length_toList]
      exact z
    | _ => exact Nat.zero_le _
  have elt : ds.all (fun d => decide (((wdOf d).length : Int) < n)) = (ds.map wdOf).all fun w => decide ((w.length : Int) < n) := by rw [List.all_map]; rfl
  have esh : shorterB sg n (.tuple ds) = ((ds.map wdOf).all (fun w => decide ((w.length : Int) < n)) && riseB ltP (ds.map wdOf)) := by
    show (ds.all (textD sg) && _) = _
    rw [c1, Bool.true_and, elt]
  have wl' : (ds.map wdOf).length ≤ 100000 := by rw [List.length_map]; exact wl
  rw [ex] at ea
  rw [esh] at q
  generalize ds.map wdOf = ws at ea hlen q wl'
  have ea1 := sm _ _ ea
  refine ⟨_, rfl, a, rfl, ⟨_, SqT.of ea1⟩, fun D2 hD2 => ?_⟩
  refine lc_it (walk_tup (xs := (ws.map mkS).map V.str)) (fun i H' => H' D2 = some (.lst (((ws.take i).map fun w => decide ((w.length : Int) < n)).map V.bl)) ∧ Same H1 H') ⟨upd_same, same_new hD2 _⟩ (fun i H' _ ⟨_, s'⟩ => SqT.of (s' _ _ ea1)) ?_ ?_
  · rintro i v H2 H3 hi ⟨hv2, sm2⟩ ⟨rfl, hx⟩
    obtain ⟨z, hz, rfl⟩ := str_atW hx
    have hzl := hlen z (List.mem_of_getElem? hz)
    have hil : i < ws.length := (List.getElem?_eq_some_iff.mp hz).1
    refine ⟨rfl, _, rfl, _, rfl, by rw [mkS_length, sizeLine_eq]; omega, _, rfl, _, _, rfl, rfl, ?_⟩
    rw [mkS_length]
    refine ⟨_, hv2, ?_, ?_, fun b o e => ?_⟩
    · rw [List.length_map, List.length_map, List.length_take, sizeLine_eq]
      omega
    · rw [upd_same, List.take_add_one, hz, List.map_append, List.map_append]
      rfl
    · rw [upd_ne (ne_of_none e hD2)]
      exact sm2 b o e
  rintro H2 ⟨hv2, sm2⟩
  rw [List.length_map, List.length_map, List.take_length] at hv2
  refine ⟨D2, _, rfl, SqL.of hv2, _, rfl, ?_⟩
  have ea2 : (ws.map fun w => decide ((w.length : Int) < n)).all id = ws.all fun w => decide ((w.length : Int) < n) := by rw [List.all_map]; rfl
  rw [ea2]
  have s12 := sm.trans sm2
  refine ite2 (fun c2 => ?_) (fun c2 => ?_)
  rotate_left
  · have g := q H2 s12
    rw [Bool.eq_false_iff.mpr c2, Bool.false_and] at g
    exact g
  have ea3 := sm2 _ _ ea1
  refine ⟨_, rfl, a, rfl, ⟨_, SqT.of ea3⟩, fun D3 hD3 => ?_⟩
  refine lc_it (walk_tup (xs := (ws.map mkS).map V.str)) (fun i H' => ∃ us : List V, H' D3 = some (.lst us) ∧ us.length = i ∧ (∀ (j : Nat) (v : V), us[j]? = some v → ∃ (t : Addr) (p : Wd), v = .ref t ∧ t ≠ D3 ∧ ws[j]? = some p ∧ H' t = some (.tup [.int (p.length : Nat), .str (mkS p)])) ∧ Same H2 H') ⟨[], upd_same, rfl, (fun j v h => by simp at h), same_new hD3 _⟩ (fun i H' _ ⟨_, _, _, _, s'⟩ => SqT.of (s' _ _ ea3)) ?_ ?_
  · rintro i v H3 H4 hi ⟨us, u1, u2, u3, sm3⟩ ⟨rfl, hx⟩
    obtain ⟨z, hz, rfl⟩ := str_atW hx
    have hzl := hlen z (List.mem_of_getElem? hz)
    have hil : i < ws.length := (List.getElem?_eq_some_iff.mp hz).1
    refine ⟨rfl, _, rfl, _, rfl, by rw [mkS_length, sizeLine_eq]; omega, _, rfl, (by show 2 ≤ sizeLine; decide), fun t ht => ?_⟩
    rw [mkS_length]
    have htD : t ≠ D3 := (ne_of_none u1 ht).symm
    have st := same_new ht (.tup [.int (z.length : Nat), .str (mkS z)])
    refine ⟨us, st _ _ u1, by rw [u2, sizeLine_eq]; omega, us ++ [.ref t], upd_same, by rw [List.length_append, u2]; rfl, fun j v hj => ?_, fun b o e => ?_⟩
    · by_cases hjl : j < us.length
      · rw [List.getElem?_append_left hjl] at hj
        obtain ⟨t', p, rfl, h1, h2, h3⟩ := u3 j v hj
        exact ⟨t', p, rfl, h1, h2, by rw [upd_ne h1]; exact st _ _ h3⟩
      · rw [List.getElem?_append_right (by omega)] at hj
        have ej : j - us.length = 0 := by
          have := (List.getElem?_eq_some_iff.mp hj).1
          have h1 : [V.ref t].length = 1 := rfl
          omega
        rw [ej] at hj
        have ev : V.ref t = v := Option.some.inj hj
        refine ⟨t, z, ev.symm, htD, by rw [show j = i by omega]; exact hz, ?_⟩
        rw [upd_ne htD, upd_same]
    · rw [upd_ne (ne_of_none e hD3)]
      exact st _ _ (sm3 b o e)
  rintro H3 ⟨us, u1, u2, u3, sm3⟩
  rw [List.length_map, List.length_map] at u2
  refine ⟨D3, us, ws, rfl, u1, ⟨u2, fun i v hv => ?_⟩, wl', fun H' s' => ?_⟩
  · obtain ⟨t, p, e1, _, e2, e3⟩ := u3 i v hv
    exact ⟨t, p, e1, e2, e3⟩
  · have g := q H' ((s12.trans sm3).trans s')
    rw [c2, Bool.true_and] at g
    exact g
end
end Vf

set_option Elab.async false
set_option linter.all false
set_option maxRecDepth 100000
set_option maxHeartbeats 4000000
namespace Vf
open PySem PySem.Spec PyProof.Rows L2 L2.Vx Vs Vm Vd
abbrev sJudge : Stmt := top 15
/-! ### judges -/
def spJudgeQ : Sp := fun vs H Q _ => ∃ (sg : Wd) (v : V) (D : PyData) (S : Addr → Prop), vs = [.str (mkS sg), v] ∧ Dt H S v D ∧ wideD 100000 D ∧ ∀ H', Same H H' → Q (.bl (judgeB sg D)) H'
theorem judge_len {sg : Wd} {ds : List PyData} (h : ds.length ≠ 5) : judgeB sg (.tuple ds) = false := by
  match ds, h with
  | [], _ => rfl
  | [x], _ => cases x <;> rfl
  | [x, _], _ => cases x <;> rfl
  | [x, _, _], _ => cases x <;> rfl
  | [x, _, _, _], _ => cases x <;> rfl
  | [_, _, _, _, _], h => exact absurd rfl h
  | x :: _ :: _ :: _ :: _ :: _ :: _, _ => cases x <;> rfl
section
variable {P : Program} {w : World} {K : PySem.W.Frag} {mg : Str → Option Value} {base : Heap}
abbrev nJudge : List Str := ["letters", "thing", "width", "short", "firsts", "lasts", "pieces"]
theorem scJudge : FnScope nJudge ["letters", "thing"] (defScope sJudge) := ⟨rfl, rfl, rfl, by decide +kernel, rfl, by decide +kernel, by decide +kernel⟩
theorem ok_judgeQ {f fH fS fW : Addr} {fd fdH fdS fdW : FuncData} (F : Fun K "is_judge" "is_judge" sJudge f fd) (T : TxtI mg)
    (GH : FnOk P w K mg base CX0 1 fH fdH ["thing"] (spAsk isInt)) (bH : Binds K fdH ["thing"] []) (kH : PySem.W.keepIn K (.ref fH) = true) (mH : mg "is_whole" = some (.ref fH))
    (GS : FnOk P w K mg base CX0 2 fS fdS ["letters", "width", "thing"] spShortQ) (bS : Binds K fdS ["letters", "width", "thing"] []) (kS' : PySem.W.keepIn K (.ref fS) = true) (mS : mg "is_shorter_ones" = some (.ref fS))
    (GW : FnOk P w K mg base CX0 3 fW fdW ["letters", "length", "thing"] spWordsQ) (bW : Binds K fdW ["letters", "length", "thing"] []) (kW : PySem.W.keepIn K (.ref fW) = true) (mW : mg "is_words" = some (.ref fW)) :
    FnOk P w K mg base CX0 4 f fd ["letters", "thing"] spJudgeQ := by
  refine F.ok scJudge (fun vs H Q E h => ?_) (fun cdv A outer s H vs Q E hr h => ?_)
  · obtain ⟨sg, v, D, S, rfl, _⟩ := h
    rfl
  obtain ⟨sg, v, D, S, rfl, hd, hw, q⟩ := h
  have hr1 : Room 1 _ := hr.mono (by decide)
  have hr2 : Room 2 _ := hr.mono (by decide)
  refine ⟨_, pss_cons (ps_if (PW.pt (pw_or (pt_not (pt_val (pe_callB call_isi (by rfl) T.isi (by decide +kernel) (pa_cons (pv 1) (pa_cons (pe_bltn (v := .ty "tuple") (u := .type "tuple") (by rfl) T.tuple (by decide +kernel) rfl) pa_nil)))))
        (pw_or1 (pt_cmpR op_ne (pe_callB call_len_seq (by rfl) T.len PySem.boot_len (pa_cons (pv 1) pa_nil)) pe_int (nomark _))))) (pss_one (ps_ret pe_bl)) pss_nil)
    (pss_cons (ps_asg (pv 1) (pg_tup rfl (pgs_cons (pg_name (i := 2) scJudge.nd rfl (Or.inl rfl)) (pgs_cons (pg_name (i := 3) scJudge.nd rfl (Or.inl rfl)) (pgs_cons (pg_name (i := 4) scJudge.nd rfl (Or.inl rfl)) (pgs_cons (pg_name (i := 5) scJudge.nd rfl (Or.inl rfl)) (pgs_cons (pg_name (i := 6) scJudge.nd rfl (Or.inl rfl)) pgs_nil)))))))
    (pss_cons (ps_if (PW.pt (pw_or (pt_not (pt_val (pe_call GH hr1 rfl mH kH bH .nil pass0 (pa_cons (pv 2) pa_nil)))) (pw_or (pt_cmpR op_lt (pv 2) pe_int (nomark _)) (pw_or1 (pt_not (pt_val (pe_call GS hr2 rfl mS kS' bS .nil pass0 (pa_cons (pv 0) (pa_cons (pv 2) (pa_cons (pv 3) pa_nil)))))))))) (pss_one (ps_ret pe_bl)) pss_nil)
    (pss_one (ps_ret (pe_and (pe_call GW hr rfl mW kW bW .nil pass0 (pa_cons (pv 0) (pa_cons (pe_op op_sub (pv 2) pe_int) (pa_cons (pv 4) pa_nil))))
      (pe_and (pe_call GW hr rfl mW kW bW .nil pass0 (pa_cons (pv 0) (pa_cons (pe_op op_sub (pv 2) pe_int) (pa_cons (pv 5) pa_nil))))
        (pe_one (pe_call GW hr rfl mW kW bW .nil pass0 (pa_cons (pv 0) (pa_cons (pv 2) (pa_cons (pv 6) pa_nil))))))))))), ?_⟩
  have q' := q H (Same.refl H)
  refine ⟨_, rfl, _, _, _, _, _, rfl, .ty _, dt_ty hd, kit_D D (.inr (.inr (.inr rfl))), _, rfl, ?_⟩
  by_cases c : isD "tuple" D = true
  rotate_left
  · have e : judgeB sg D = false := by
      cases D with
      | tuple ds => exact absurd ((isD_tup _).mpr ⟨ds, rfl⟩) c
      | _ => rfl
    rw [e] at q'
    rw [show isD "tuple" D = false from Bool.eq_false_iff.mpr c]
    exact q'
  obtain ⟨ds, rfl⟩ := (isD_tup D).mp c
  rw [c]
  obtain ⟨a, xs, rfl, ea, _, da⟩ := dt_tup hd
  have hl := dtA_len da
  obtain ⟨wl, wr⟩ : ds.length ≤ 100000 ∧ wideDs 100000 ds := by
    unfold wideD at hw
    exact hw
  refine if_fl rfl ?_
  refine ⟨_, rfl, a, xs, rfl, .inr (SqT.of ea), rfl, _, rfl, ?_⟩
  by_cases h5 : ds.length = 5
  rotate_left
  · rw [judge_len h5] at q'
    have e : decide (V.int (xs.length : Nat) = V.int 5) = false := decide_eq_false fun z => h5 (by
      have z2 := V.int.inj z
      omega)
    rw [e]
    exact q'
  have e5 : decide (V.int (xs.length : Nat) = V.int 5) = true := decide_eq_true (by rw [hl, h5]; rfl)
  rw [e5]
  refine if_fl rfl ?_
  match ds, h5, da, wr, q with
  | [d1, d2, d3, d4, d5], _, da, wr, q =>
    obtain ⟨v1, r1, rfl, h1, r⟩ := dtA_one da
    obtain ⟨v2, r2, rfl, h2, r⟩ := dtA_one r
    obtain ⟨v3, r3, rfl, h3, r⟩ := dtA_one r
    obtain ⟨v4, r4, rfl, h4, r⟩ := dtA_one r
    obtain ⟨v5, r5, rfl, h5, r⟩ := dtA_one r
    obtain rfl := dtA_nil r
    have w2 := wide_mem wr d2 (by simp)
    have w3 := wide_mem wr d3 (by simp)
    have w4 := wide_mem wr d4 (by simp)
    have w5 := wide_mem wr d5 (by simp)
    refine ⟨_, rfl, a, _, rfl, SqT.of ea, rfl, _, _, rfl, _, _, rfl, _, _, rfl, _, _, rfl, _, _, rfl, rfl, ?_⟩
    refine ⟨_, rfl, v1, d1, S, rfl, h1, fun H1 s1 => ⟨_, rfl, ?_⟩⟩
    cases d1 with
    | int k =>
      obtain rfl := dt_int h1
      have ej : judgeB sg (.tuple [.int k, d2, d3, d4, d5]) = (decide (1 ≤ k) && (shorterB sg k d2 && (wordsB sg (k - 1) d3 && (wordsB sg (k - 1) d4 && wordsB sg k d5)))) := rfl
      rw [ej] at q
      refine if_fl rfl ?_
      refine ⟨_, rfl, _, _, rfl, rfl, _, rfl, ?_⟩
      refine ite2 (fun c1 => ?_) (fun c1 => ?_)
      · have g := q H1 s1
        rw [decide_eq_false (by have := of_decide_eq_true c1; omega : ¬ 1 ≤ k), Bool.false_and] at g
        exact g
      have k1 : decide (1 ≤ k) = true := decide_eq_true (by
        have : ¬ k < 1 := fun z => c1 (decide_eq_true z)
        omega)
      refine ⟨_, rfl, _, rfl, _, rfl, sg, k, v2, d2, S, rfl, dt_same h2 s1, w2, fun H2 s2 => ⟨_, rfl, ?_⟩⟩
      have s12 := s1.trans s2
      by_cases c2 : shorterB sg k d2 = true
      rotate_left
      · have g := q H2 s12
        rw [k1, Bool.eq_false_iff.mpr c2, Bool.false_and] at g
        rw [Bool.eq_false_iff.mpr c2]
        exact g
      rw [c2]
      refine if_fl rfl ?_
      refine ⟨_, rfl, _, rfl, _, _, rfl, rfl, _, rfl, sg, k - 1, v3, d3, S, rfl, dt_same h3 s12, w3, fun H3 s3 => ⟨_, rfl, ?_⟩⟩
      have s13 := s12.trans s3
      refine ite2 (fun c3 => ?_) (fun c3 => ?_)
      rotate_left
      · have g := q H3 s13
        rw [k1, c2, Bool.eq_false_iff.mpr c3] at g
        exact g
      refine ⟨_, rfl, _, rfl, _, _, rfl, rfl, _, rfl, sg, k - 1, v4, d4, S, rfl, dt_same h4 s13, w4, fun H4 s4 => ⟨_, rfl, ?_⟩⟩
      have s14 := s13.trans s4
      refine ite2 (fun c4 => ?_) (fun c4 => ?_)
      rotate_left
      · have g := q H4 s14
        rw [k1, c2, c3, Bool.eq_false_iff.mpr c4] at g
        exact g
      refine ⟨_, rfl, _, rfl, _, rfl, sg, k, v5, d5, S, rfl, dt_same h5 s14, w5, fun H5 s5 => ?_⟩
      have g := q H5 (s14.trans s5)
      rw [k1, c2, c3, c4] at g
      exact g
    | _ => exact q H1 s1
end
end Vf

set_option Elab.async false
set_option linter.all false
set_option maxRecDepth 100000
set_option maxHeartbeats 4000000
namespace Vf
open PySem PySem.Spec PyProof.Rows L2 L2.Vx Vs Vm
abbrev sLess : Stmt := top 27
/-! ### a judge with an entry less -/
def rm (l : List Wd) (j : Nat) : List Wd := l.take j ++ l.drop (j + 1)
theorem rm_map (l : List Wd) (j : Nat) : (l.map fun z => (.str (mkS z) : PyData)).take j ++ (l.map fun z => (.str (mkS z) : PyData)).drop (j + 1) = (rm l j).map fun z => .str (mkS z) := by
  unfold rm
  rw [List.map_append, List.map_take, List.map_drop]
theorem rm_len (l : List Wd) (j : Nat) : (rm l j).length ≤ l.length := by
  unfold rm
  rw [List.length_append, List.length_take, List.length_drop]
  omega
theorem rm_not : ∀ {l : List Wd} {j : Nat} {x : Wd}, l.Nodup → l[j]? = some x → x ∉ rm l j
  | [], j, x, _, e => by simp at e
  | y :: l, 0, x, nd, e => by
    obtain rfl := Option.some.inj e
    exact (List.nodup_cons.mp nd).1
  | y :: l, j + 1, x, nd, e => by
    obtain ⟨n1, n2⟩ := List.nodup_cons.mp nd
    have e' : l[j]? = some x := e
    show x ∉ y :: rm l j
    intro h
    rcases List.mem_cons.mp h with h | h
    · rw [h] at e'
      exact n1 (List.mem_of_getElem? e')
    · exact rm_not n2 e' h
theorem acc_all {k : Nat} {zs : List Wd} {z : Wd} (hz : z ∈ zs) : acc k (shr k zs) (fis k zs) (las k zs) (pcs k zs) z = true := by
  unfold acc
  by_cases c : z.length < k
  · rw [if_pos c]
    exact decide_eq_true (mem_shr.mpr ⟨hz, c⟩)
  · rw [if_neg c, decide_eq_true (mem_fis.mpr ⟨z, hz, c, rfl⟩), decide_eq_true (mem_las.mpr ⟨z, hz, c, rfl⟩), Bool.true_and, Bool.true_and, List.all_eq_true]
    exact fun p hp => decide_eq_true (mem_pcs.mpr ⟨z, hz, c, hp⟩)
def wAt (k : Nat) (zs : List Wd) : Nat → List Wd
  | 0 => shr k zs
  | 1 => fis k zs
  | 2 => las k zs
  | _ => pcs k zs
def dsOf (k : Nat) (zs : List Wd) : List PyData := [.int k, wordsD (shr k zs), wordsD (fis k zs), wordsD (las k zs), wordsD (pcs k zs)]
theorem ds_at {k : Nat} {zs : List Wd} : ∀ {i : Nat}, i < 4 → (dsOf k zs)[1 + i]? = some (wordsD (wAt k zs i))
  | 0, _ => rfl
  | 1, _ => rfl
  | 2, _ => rfl
  | 3, _ => rfl
  | _ + 4, h => absurd h (by omega)
theorem less_case {k : Nat} {zs : List Wd} {i j : Nat} (hi : i < 4) (hj : j < (wAt k zs i).length) : ∃ S' F' L' P' : List Wd,
    (.tuple ((dsOf k zs).take (1 + i) ++ [.tuple (((wAt k zs i).map fun z => (.str (mkS z) : PyData)).take j ++ ((wAt k zs i).map fun z => (.str (mkS z) : PyData)).drop (j + 1))] ++ (dsOf k zs).drop (1 + i + 1)) : PyData) = judgeD k S' F' L' P' ∧ P'.length ≤ (pcs k zs).length ∧ ∃ z ∈ zs, acc k S' F' L' P' z = false := by
  have hx := List.getElem?_eq_getElem hj
  generalize (wAt k zs i)[j] = x at hx
  have hm := List.mem_of_getElem? hx
  rw [rm_map]
  match i, hi, hj, hx, hm with
  | 0, _, hj, hx, hm =>
    obtain ⟨m1, m2⟩ := mem_shr.mp hm
    refine ⟨rm (shr k zs) j, _, _, _, rfl, Nat.le_refl _, x, m1, ?_⟩
    unfold acc
    rw [if_pos m2]
    exact decide_eq_false (rm_not (upP_nodup (upP_shr k zs)) hx)
  | 1, _, hj, hx, hm =>
    obtain ⟨z, m1, m2, e⟩ := mem_fis.mp hm
    refine ⟨_, rm (fis k zs) j, _, _, rfl, Nat.le_refl _, z, m1, ?_⟩
    unfold acc
    rw [if_neg m2, e, decide_eq_false (show x ∉ rm (fis k zs) j from rm_not (up_nodup (up_asc _)) hx), Bool.false_and]
  | 2, _, hj, hx, hm =>
    obtain ⟨z, m1, m2, e⟩ := mem_las.mp hm
    refine ⟨_, _, rm (las k zs) j, _, rfl, Nat.le_refl _, z, m1, ?_⟩
    unfold acc
    rw [if_neg m2, e, decide_eq_false (show x ∉ rm (las k zs) j from rm_not (up_nodup (up_asc _)) hx), Bool.false_and, Bool.and_false]
  | 3, _, hj, hx, hm =>
    obtain ⟨z, m1, m2, e⟩ := mem_pcs.mp hm
    refine ⟨_, _, _, rm (pcs k zs) j, rfl, rm_len _ _, z, m1, ?_⟩
    unfold acc
    rw [if_neg m2, show ((wins k z).all fun p => decide (p ∈ rm (pcs k zs) j)) = false from ?_, Bool.and_false, Bool.and_false]
    rw [Bool.eq_false_iff]
    intro h
    exact rm_not (up_nodup (up_asc _)) hx (of_decide_eq_true (List.all_eq_true.mp h x e))
  | _ + 4, h, _, _, _ => exact absurd h (by omega)
theorem sl_dtN {K : PySem.W.Frag} {H : Hp} {S : Addr → Prop} {a : Addr} {xs : List V} {ds : List PyData} {lo : Option Int} {σ : L2.St} {Q : V → Hp → Prop} (ea : H a = some (.tup xs)) (sa : S a) (da : DtAll H S xs ds)
    (hn : ∀ p, H p = none → S p) (q : ∀ v H', Same H H' → Dt H' S v (.tuple (Vd.cutG ds lo none)) → Q v H') : tNoPart σ H (fun u H' => rSlA K (.ref a) lo u H' Q) := Vd.sl_dt ea sa da hn q
/-- a judge that does not accept all of them -/
def BadJ (H : Hp) (S : Addr → Prop) (k : Nat) (zs : List Wd) (u : V) : Prop := ∃ S' F' L' P' : List Wd, Dt H S u (judgeD k S' F' L' P') ∧ P'.length ≤ (pcs k zs).length ∧ ∃ z ∈ zs, acc k S' F' L' P' z = false
def spLess : Sp := fun vs H Q _ => ∃ (v : V) (S : Addr → Prop) (k : Nat) (zs : List Wd), vs = [v] ∧ Dt H S v (lrnD k zs) ∧ 1 ≤ k ∧ k ≤ 1000 ∧ zs.length ≤ 20 ∧ sizeW zs ≤ 3000 ∧
  ∀ (p : Addr) (us : List V) (H' : Hp), Same H H' → H' p = some (.lst us) → (∀ u ∈ us, BadJ H' (fun a => a ≠ p) k zs u) → Q (.ref p) H'
section
variable {P : Program} {w : World} {K : PySem.W.Frag} {mg : Str → Option Value} {base : Heap}
theorem scLess : FnScope ["_law_it", "_law_found", "_law_at", "_law_k"] ["_law_it"] (defScope sLess) := ⟨rfl, rfl, rfl, by decide +kernel, rfl, by decide +kernel, by decide +kernel⟩
theorem ok_less {f : Addr} {fd : FuncData} (F : Fun K "_law_less" "_law_less" sLess f fd) (T : TxtG mg) : FnOk P w K mg base CX0 1 f fd ["_law_it"] spLess := by
  refine F.ok scLess (fun vs H Q E h => ?_) (fun cdv A outer s H vs Q E hr h => ?_)
  · obtain ⟨v, S, k, zs, rfl, _⟩ := h
    rfl
  obtain ⟨v, S, k, zs, rfl, hv, hk1, hk2, hz1, hz2, q⟩ := h
  refine ⟨_, pss_cons (ps_set (i := 1) scLess.nd rfl (Or.inl rfl) (pe_lst pa_nil))
    (pss_cons (ps_for PassesOwn.never rfl (pi_range2 rfl T.range (pa_cons pe_int (pa_cons pe_int pa_nil))) (pg_name (i := 2) scLess.nd rfl (Or.inl rfl))
      (pss_one (ps_for PassesOwn.never rfl (pi_range1 rfl T.range (pa_cons (pe_callB call_len_seq (by rfl) T.len PySem.boot_len (pa_cons (pe_ix ix_tup (pv 0) (pv 2) (fun _ _ => rfl)) pa_nil)) pa_nil)) (pg_name (i := 3) scLess.nd rfl (Or.inl rfl))
        (pss_one (ps_expr (pe_bm PySem.F.plainAttrs_list PySem.F.slot_list_append PySem.F.type_list_append mt_append (pv 1) (pa_cons
          (pe_op op_catA (pe_op op_catA (pe_slice sl_tupA (pv 0) po_none (po_some (pv 2))) (pe_tup (pa_cons (pe_op op_catA (pe_slice sl_tupA (pe_ix ix_tup (pv 0) (pv 2) (fun _ _ => rfl)) po_none (po_some (pv 3))) (pe_slice sl_tupA (pe_ix ix_tup (pv 0) (pv 2) (fun _ _ => rfl)) (po_some (pe_op op_add (pv 3) pe_int)) po_none)) pa_nil)))
            (pe_slice sl_tupA (pv 0) (po_some (pe_op op_add (pv 2) pe_int)) po_none)) pa_nil)))))))
    (pss_one (ps_ret (pv 1)))), ?_⟩
  refine ⟨(by show 0 ≤ sizeLine; decide), fun p hp => ?_⟩
  have s0 := same_new hp (.lst [])
  have hv2 : Dt H (fun a => a ≠ p) v (lrnD k zs) := hv.mono (fun _ _ _ e => e) fun a o _ e => ne_of_none e hp
  obtain ⟨a, xs, rfl, ea, na, da⟩ := dt_tup (show Dt H (fun a => a ≠ p) v (.tuple (dsOf k zs)) from hv2)
  have ldx : xs.length = 5 := dtA_len da
  have lW : ∀ i, (wAt k zs i).length ≤ 3000 := fun i => by
    have l1 := shr_len k zs
    have l2 := fis_len k zs
    have l3 := las_len k zs
    have l4 := pcs_len hk1 zs
    match i with
    | 0 => show (shr k zs).length ≤ 3000; omega
    | 1 => show (fis k zs).length ≤ 3000; omega
    | 2 => show (las k zs).length ≤ 3000; omega
    | _ + 3 => show (pcs k zs).length ≤ 3000; omega
  refine ⟨1, 5, rfl, ⟨by decide, by decide, by decide, by decide⟩, for_range (lo := 1) (n := 4) (fun i σ H' => ∃ v2 v3 us, σ = [some (.ref a), some (.ref p), v2, v3] ∧ H' p = some (.lst us) ∧ us.length ≤ 3000 * i ∧ (∀ u ∈ us, BadJ H' (fun a => a ≠ p) k zs u) ∧ Same H H')
    ⟨none, none, [], rfl, upd_same, Nat.zero_le _, (fun u hu => nomatch hu), s0⟩ ?_ ?_⟩
  · rintro i σ H1 hi ⟨v2, v3, us, rfl, m1, m2, m3, m4⟩
    rw [show ((1 : Int) + (i : Nat)) = ((1 + i : Nat) : Int) by omega]
    have hd := ds_at (k := k) (zs := zs) hi
    have hx : 1 + i < xs.length := by rw [ldx]; omega
    obtain ⟨dd, hdd, dx⟩ := dtA_at da (List.getElem?_eq_getElem hx)
    rw [hd] at hdd
    obtain rfl := Option.some.inj hdd
    obtain ⟨b, eb, nb, hb⟩ := dt_words dx
    have hx' : xs[1 + i]? = some (.ref b) := by rw [List.getElem?_eq_getElem hx, eb]
    have hl : (((wAt k zs i).map mkS).map V.str).length = (wAt k zs i).length := by rw [List.length_map, List.length_map]
    have lw := lW i
    refine ⟨_, rfl, _, rfl, a, _, _, .ref b, rfl, rfl, SqT.of (m4 _ _ ea), atI_nat hx', b, _, rfl, .inr (SqT.of (m4 _ _ hb)), _, rfl, by rw [hl]; omega, by rw [hl]; omega, ?_⟩
    rw [show ((((wAt k zs i).map mkS).map V.str).length : Int).toNat = (wAt k zs i).length by rw [hl]; omega]
    refine for_range (lo := 0) (n := (wAt k zs i).length) (fun j σ H' => ∃ v3 us, σ = [some (.ref a), some (.ref p), some (.int ((1 + i : Nat) : Int)), v3] ∧ H' p = some (.lst us) ∧ us.length ≤ 3000 * i + j ∧ (∀ u ∈ us, BadJ H' (fun a => a ≠ p) k zs u) ∧ Same H H')
      ⟨v3, us, rfl, m1, m2, m3, m4⟩ ?_ ?_
    · rintro j σ H2 hj ⟨v3, us, rfl, n1, n2, n3, n4⟩
      rw [show ((0 : Int) + (j : Nat)) = (j : Nat) from Int.zero_add _]
      have hn : ∀ {H' : Hp}, Same H2 H' → ∀ q, H' q = none → q ≠ p := fun s q h => (ne_of_none (s _ _ n1) h).symm
      have ea2 := n4 _ _ ea
      have da2 := Vd.dtA_same da n4
      have hb2 := n4 _ _ hb
      have db2 : DtAll H2 (fun a => a ≠ p) (((wAt k zs i).map mkS).map V.str) ((wAt k zs i).map fun z => .str (mkS z)) := dtA_words _
      refine ⟨_, rfl, .inl ⟨rfl, _, SqL.of n1⟩, _, rfl, _, rfl, _, rfl, Vd.sl_dt ea2 na da2 (hn (Same.refl _)) fun v1 H3 s3 h1 => ?_⟩
      rw [Vd.cutG_to] at h1
      refine ⟨_, rfl, _, rfl, a, _, _, .ref b, rfl, rfl, SqT.of (s3 _ _ ea2), atI_nat hx', _, rfl, _, rfl, Vd.sl_dt (s3 _ _ hb2) nb (Vd.dtA_same db2 s3) (hn s3) fun v2' H4 s4 h2 => ?_⟩
      rw [Vd.cutG_to] at h2
      have s34 := s3.trans s4
      refine ⟨_, rfl, _, rfl, a, _, _, .ref b, rfl, rfl, SqT.of (s34 _ _ ea2), atI_nat hx', _, rfl, _, _, rfl, rfl, ((j + 1 : Nat) : Int), (show V.int (((j : Nat) : Int) + 1) = V.int ((j + 1 : Nat) : Int) from congrArg V.int (by omega)), ?_⟩
      refine sl_dtN (s34 _ _ hb2) nb (Vd.dtA_same db2 s34) (hn s34) fun v3' H5 s5 h3 => ?_
      rw [Vd.cutG_from] at h3
      refine Vd.cat_dt (Vd.dt_same h2 s5) h3 (by rw [List.length_take, List.length_drop, List.length_map, sizeLine_eq]; omega) (hn (s34.trans s5)) fun v4 H6 s6 h4 => ⟨(by show 1 ≤ sizeLine; decide), fun t ht => ?_⟩
      have s36 := (s34.trans s5).trans s6
      have s7 := same_new ht (.tup [v4])
      have h7 : Dt (upd H6 t (.tup [v4])) (fun a => a ≠ p) (.ref t) (.tuple [.tuple (((wAt k zs i).map fun z => (.str (mkS z) : PyData)).take j ++ ((wAt k zs i).map fun z => (.str (mkS z) : PyData)).drop (j + 1))]) :=
        .tup upd_same (hn s36 t ht) (.cons (Vd.dt_same h4 s7) .nil)
      have ldk : (dsOf k zs).length = 5 := rfl
      refine Vd.cat_dt (Vd.dt_same (Vd.dt_same (Vd.dt_same h1 (s4.trans s5)) s6) s7) h7 (by rw [List.length_take, sizeLine_eq]; show _ + 1 ≤ _; omega) (hn (s36.trans s7)) fun v5 H8 s8 h8 => ?_
      have s38 := (s36.trans s7).trans s8
      refine ⟨_, rfl, _, rfl, _, _, rfl, rfl, ((1 + i + 1 : Nat) : Int), (show V.int (((1 + i : Nat) : Int) + 1) = V.int ((1 + i + 1 : Nat) : Int) from congrArg V.int (by omega)), ?_⟩
      refine sl_dtN (s38 _ _ ea2) na (Vd.dtA_same da2 s38) (hn s38) fun v6 H9 s9 h9 => ?_
      rw [Vd.cutG_from] at h9
      refine Vd.cat_dt (Vd.dt_same h8 s9) h9 (by rw [List.length_append, List.length_take, List.length_drop, sizeLine_eq]; show _ + 1 + _ ≤ _; omega) (hn (s38.trans s9)) fun v7 Ha sa ha => ?_
      obtain ⟨S', F', L', P', e1, e2, e3⟩ := less_case (k := k) (zs := zs) hi hj
      rw [e1] at ha
      have s3a := (s38.trans s9).trans sa
      have np := s3a _ _ n1
      have up : ∀ {u : V} {D : PyData}, Dt Ha (fun a => a ≠ p) u D → Dt (upd Ha p (.lst (us ++ [v7]))) (fun a => a ≠ p) u D := fun h => h.mono (fun a o na e => by rw [upd_ne na]; exact e) fun _ _ x _ => x
      refine ⟨p, us, v7, rfl, rfl, np, by rw [sizeLine_eq]; omega, _, us ++ [v7], rfl, upd_same, by rw [List.length_append]; show _ + 1 ≤ _; omega, fun u hu => ?_, fun b' o e => ?_⟩
      · rcases List.mem_append.mp hu with h | h
        · obtain ⟨A, B, C, D, x1, x2, x3⟩ := n3 u h
          exact ⟨A, B, C, D, up (Vd.dt_same x1 s3a), x2, x3⟩
        · rw [List.mem_singleton.mp h]
          exact ⟨S', F', L', P', up ha, e2, e3⟩
      · rw [upd_ne (ne_of_none e hp)]
        exact s3a _ _ (n4 _ _ e)
    · rintro σ H2 ⟨v3, us, rfl, n1, n2, n3, n4⟩
      exact ⟨_, _, us, rfl, n1, by omega, n3, n4⟩
  · rintro σ H1 ⟨v2, v3, us, rfl, m1, m2, m3, m4⟩
    exact ⟨_, rfl, q p us H1 m4 m1 m3⟩
end
end Vf

set_option Elab.async false
set_option linter.all false
set_option maxRecDepth 100000
set_option maxHeartbeats 4000000
namespace Vf
open PySem PySem.Spec PyProof.Rows L2 L2.Vx Vs Vm
/-! ### the law's way to call what learns -/
def spLl : Sp := fun vs H Q _ => ∃ (k : Nat) (a : Addr) (zs : List Wd), vs = [.int k, .ref a] ∧ H a = some (.lst ((zs.map mkS).map .str)) ∧ 1 ≤ k ∧ k ≤ 1000 ∧ zs.length ≤ 8 ∧ (∀ z ∈ zs, z.length ≤ 100) ∧ ∀ v H', Same H H' → Dt H' (New H) v (lrnD k zs) → Q v H'
theorem lrn_congr {k : Nat} {l m : List Wd} (h : ∀ x, x ∈ l ↔ x ∈ m) : lrnD k l = lrnD k m := by
  unfold lrnD
  rw [shr_congr h, fis_congr h, las_congr h, pcs_congr h]
theorem sizeW_le {B : Nat} : ∀ {l : List Wd}, (∀ z ∈ l, z.length ≤ B) → sizeW l ≤ l.length * B
  | [], _ => Nat.zero_le _
  | z :: r, h => by
    have ih := sizeW_le fun y hy => h y (List.mem_cons_of_mem _ hy)
    have a := h z (List.mem_cons_self ..)
    show z.length + sizeW r ≤ (r.length + 1) * B
    rw [Nat.add_mul, Nat.one_mul]
    omega
theorem eight {α : Type} : ∀ {l : List α}, l.length = 8 → ∃ a b c d e f g h, l = [a, b, c, d, e, f, g, h]
  | [a, b, c, d, e, f, g, h], _ => ⟨a, b, c, d, e, f, g, h, rfl⟩
theorem rep_flat {α : Type} (x : α) : ∀ n : Nat, (List.replicate n [x]).flatten = List.replicate n x
  | 0 => rfl
  | n + 1 => by
    rw [List.replicate_succ, List.replicate_succ, List.flatten_cons, rep_flat x n]
    rfl
section
variable {P : Program} {w : World} {K : PySem.W.Frag} {mg : Str → Option Value} {base : Heap}
theorem scLl : FnScope ["_law_wide", "_law_some", "_law_it"] ["_law_wide", "_law_some"] (defScope sLl) := ⟨rfl, rfl, rfl, by decide +kernel, rfl, by decide +kernel, by decide +kernel⟩
theorem ok_ll {f fL : Addr} {fd : FuncData} (F : Fun K "_law_learned" "_law_learned" sLl f fd) (T : TxtG mg)
    (GL : FnR P w K mg base CX0 4 fL spLrn) (kL : PySem.W.keepIn K (.ref fL) = true) (mL : mg "learned" = some (.ref fL)) :
    FnOk P w K mg base CX0 5 f fd ["_law_wide", "_law_some"] spLl := by
  refine F.ok scLl (fun vs H Q E h => ?_) (fun cdv A outer s H vs Q E hr h => ?_)
  · obtain ⟨k, a, zs, rfl, _⟩ := h
    rfl
  obtain ⟨k, a, zs, rfl, ha, hk1, hk2, hz1, hz2, q⟩ := h
  refine ⟨_, pss_cons (ps_if (pt_cmpR (Vd.op_eqNil hr.units) (pv 1) (pe_lst pa_nil) (nomark _)) (pss_one (ps_ret (pe_callR GL hr (by rfl) mL kL pass0 (pa_cons (pv 0) pa_nil)))) pss_nil)
    (pss_cons (ps_if (pt_cmpR op_lt (pe_callB call_len_seq (by rfl) T.len PySem.boot_len (pa_cons (pv 1) pa_nil)) pe_int (nomark _))
      (pss_one (ps_ret (pe_ifExp (pt_cmpR op_eq (pe_callB call_len_seq (by rfl) T.len PySem.boot_len (pa_cons (pv 1) pa_nil)) pe_int (nomark _))
        (pe_callR GL hr (by rfl) mL kL pass0 (pa_cons (pv 0) (pa_cons (pe_ix ix_list (pv 1) pe_int (fun _ _ => rfl)) pa_nil)))
        (pe_callR GL hr (by rfl) mL kL pass0 (pa_cons (pv 0) (pa_cons (pe_ix ix_list (pv 1) pe_int (fun _ _ => rfl)) (pa_cons (pe_ix ix_list (pv 1) pe_int (fun _ _ => rfl)) pa_nil))))))) pss_nil)
    (pss_cons (ps_set (i := 2) scLl.nd rfl (Or.inl rfl) (pe_op op_cat (pv 1) (pe_op op_rep (pe_lst (pa_cons (pe_ix ix_list (pv 1) (pe_un un_neg pe_int) (fun _ _ => rfl)) pa_nil)) (pe_op op_sub pe_int (pe_callB call_len_seq (by rfl) T.len PySem.boot_len (pa_cons (pv 1) pa_nil))))))
    (pss_one (ps_ret (pe_callR GL hr (by rfl) mL kL pass0 (pa_cons (pv 0) (pa_cons (pe_ix ix_list (pv 2) pe_int (fun _ _ => rfl)) (pa_cons (pe_ix ix_list (pv 2) pe_int (fun _ _ => rfl)) (pa_cons (pe_ix ix_list (pv 2) pe_int (fun _ _ => rfl)) (pa_cons (pe_ix ix_list (pv 2) pe_int (fun _ _ => rfl))
      (pa_cons (pe_ix ix_list (pv 2) pe_int (fun _ _ => rfl)) (pa_cons (pe_ix ix_list (pv 2) pe_int (fun _ _ => rfl)) (pa_cons (pe_ix ix_list (pv 2) pe_int (fun _ _ => rfl)) (pa_cons (pe_ix ix_list (pv 2) pe_int (fun _ _ => rfl)) pa_nil)))))))))))))), ?_⟩
  have hlen : ((zs.map mkS).map V.str).length = zs.length := by rw [List.length_map, List.length_map]
  refine ⟨_, rfl, (by show 0 ≤ sizeLine; decide), fun p hp => ⟨a, p, _, rfl, rfl, SqL.of (same_new hp _ _ _ ha), SqL.of upd_same, _, rfl, ?_⟩⟩
  have s0 := same_new hp (.lst [])
  have ha0 := s0 _ _ ha
  generalize upd H p (.lst []) = H1 at s0 ha0 ⊢
  have fin : ∀ (zs' : List Wd) (H' : Hp), Same H H' → (∀ x, x ∈ zs' ↔ x ∈ zs) → zs'.length ≤ 20 → ∃ (k' : Nat) (ys : List Wd), (.int k :: (zs'.map mkS).map V.str : List V) = .int k' :: (ys.map mkS).map .str ∧ 1 ≤ k' ∧ k' ≤ 1000 ∧ ys.length ≤ 20 ∧ sizeW ys ≤ 3000 ∧ ∀ v H'', Same H' H'' → Dt H'' (New H') v (lrnD k' ys) → Q v H'' := by
    intro zs' H' s1 hm hl
    have sz : sizeW zs' ≤ zs'.length * 100 := sizeW_le fun z hz => hz2 z ((hm z).mp hz)
    refine ⟨k, zs', rfl, hk1, hk2, hl, by omega, fun v H'' s2 hv => q v H'' (s1.trans s2) ?_⟩
    rw [← lrn_congr hm]
    exact dt_new hv s1
  match zs, hz1, hlen, ha0, fin with
  | [], _, _, ha0, fin =>
    refine ite2 (fun _ => ?_) (fun c => absurd rfl c)
    exact ⟨_, rfl, fin [] _ s0 (fun _ => Iff.rfl) (by decide)⟩
  | [x], _, _, ha0, fin =>
    refine if_fl' rfl ?_
    refine ⟨_, rfl, a, _, rfl, .inl (SqL.of ha0), _, _, rfl, rfl, _, rfl, ?_⟩
    refine ite2 (fun _ => ?_) (fun c => absurd (decide_eq_true (by show ((1 : Nat) : Int) < 3; decide)) c)
    refine ⟨_, rfl, a, _, rfl, .inl (SqL.of ha0), rfl, _, rfl, ?_⟩
    refine ite2 (fun _ => ?_) (fun c => absurd (decide_eq_true rfl) c)
    exact ⟨_, rfl, _, rfl, a, _, 0, _, rfl, rfl, SqL.of ha0, rfl, fin [x] _ s0 (fun _ => Iff.rfl) (by show 1 ≤ 20; decide)⟩
  | [x, y], _, _, ha0, fin =>
    refine if_fl' rfl ?_
    refine ⟨_, rfl, a, _, rfl, .inl (SqL.of ha0), _, _, rfl, rfl, _, rfl, ?_⟩
    refine ite2 (fun _ => ?_) (fun c => absurd (decide_eq_true (by show ((2 : Nat) : Int) < 3; decide)) c)
    refine ⟨_, rfl, a, _, rfl, .inl (SqL.of ha0), rfl, _, rfl, ?_⟩
    refine if_fl' (decide_eq_false fun z => absurd (V.int.inj z) (by show ¬ ((2 : Nat) : Int) = 1; decide)) ?_
    exact ⟨_, rfl, _, rfl, a, _, 0, _, rfl, rfl, SqL.of ha0, rfl, _, rfl, a, _, 1, _, rfl, rfl, SqL.of ha0, rfl, fin [x, y] _ s0 (fun _ => Iff.rfl) (by show 2 ≤ 20; decide)⟩
  | x :: y :: z :: r, hz1, hlen, ha0, fin =>
    refine if_fl' rfl ?_
    have n3 : 3 ≤ (x :: y :: z :: r).length := by show 3 ≤ r.length + 3; omega
    obtain ⟨ys, lw, eys⟩ : ∃ ys lw, (x :: y :: z :: r) = ys ++ [lw] := ⟨_, _, (List.dropLast_concat_getLast (l := x :: y :: z :: r) (by simp)).symm⟩
    generalize hzz : x :: y :: z :: r = zz at *
    have hzzl : (((zz.map mkS).map V.str).length : Int) = (zz.length : Nat) := by rw [hlen]
    refine ⟨_, rfl, a, _, rfl, .inl (SqL.of ha0), _, _, rfl, rfl, _, rfl, ?_⟩
    refine if_fl' (decide_eq_false (by omega)) ?_
    have es : (zz.map mkS).map V.str = (ys.map mkS).map V.str ++ [V.str (mkS lw)] := by rw [strs_snoc, ← eys]
    refine ⟨_, rfl, _, rfl, _, rfl, a, _, _, .str (mkS lw), rfl, rfl, SqL.of ha0, by rw [es]; exact atI_last _ _, (by show 1 ≤ sizeLine; decide), fun l hl => ?_⟩
    have s1 := same_new hl (.lst [V.str (mkS lw)])
    have ha1 := s1 _ _ ha0
    refine ⟨_, rfl, a, _, rfl, .inl (SqL.of ha1), _, _, rfl, rfl, l, _, _, rfl, rfl, upd_same, by omega, by omega, by rw [sizeLine_eq]; show 1 * _ ≤ _; omega, fun l2 hl2 => ?_⟩
    have s2 := s1.trans (same_new hl2 (.lst (List.replicate ((8 : Int) - (((zz.map mkS).map V.str).length : Nat)).toNat [V.str (mkS lw)]).flatten))
    have e8 : ((8 : Int) - (((zz.map mkS).map V.str).length : Nat)).toNat = 8 - zz.length := by omega
    refine ⟨a, l2, _, _, rfl, rfl, s2 _ _ ha0, upd_same, ?_, fun p3 hp3 => ?_⟩
    · rw [rep_flat, List.length_replicate, hlen, sizeLine_eq]
      omega
    have eit : (zz.map mkS).map V.str ++ (List.replicate ((8 : Int) - (((zz.map mkS).map V.str).length : Nat)).toNat [V.str (mkS lw)]).flatten = ((zz ++ List.replicate (8 - zz.length) lw).map mkS).map V.str := by
      rw [rep_flat, e8, List.map_append, List.map_append, List.map_replicate, List.map_replicate]
    have e3 : ∀ H' : Hp, upd H' p3 (.lst ((zz.map mkS).map V.str ++ (List.replicate ((8 : Int) - (((zz.map mkS).map V.str).length : Nat)).toNat [V.str (mkS lw)]).flatten)) p3 = some (.lst (((zz ++ List.replicate (8 - zz.length) lw).map mkS).map V.str)) := fun H' => by rw [upd_same, eit]
    have l8 : (zz ++ List.replicate (8 - zz.length) lw).length = 8 := by rw [List.length_append, List.length_replicate]; omega
    have hlw : lw ∈ zz := by rw [eys]; simp
    have mem : ∀ x, x ∈ zz ++ List.replicate (8 - zz.length) lw ↔ x ∈ zz := fun x => by
      rw [List.mem_append, List.mem_replicate]
      exact ⟨fun h => h.elim id fun h => h.2 ▸ hlw, .inl⟩
    have s3 := (s0.trans s2).trans (same_new hp3 (.lst ((zz.map mkS).map V.str ++ (List.replicate ((8 : Int) - (((zz.map mkS).map V.str).length : Nat)).toNat [V.str (mkS lw)]).flatten)))
    have e3' := e3 (upd (upd H1 l (.lst [V.str (mkS lw)])) l2 (.lst (List.replicate ((8 : Int) - (((zz.map mkS).map V.str).length : Nat)).toNat [V.str (mkS lw)]).flatten))
    have fi := fin (zz ++ List.replicate (8 - zz.length) lw) _ s3 mem (by rw [l8]; decide)
    obtain ⟨i0, i1, i2, i3, i4, i5, i6, i7, ei⟩ := eight l8
    rw [ei] at e3' fi
    exact ⟨_, rfl, _, rfl, p3, _, 0, _, rfl, rfl, SqL.of e3', rfl, _, rfl, p3, _, 1, _, rfl, rfl, SqL.of e3', rfl, _, rfl, p3, _, 2, _, rfl, rfl, SqL.of e3', rfl, _, rfl, p3, _, 3, _, rfl, rfl, SqL.of e3', rfl,
      _, rfl, p3, _, 4, _, rfl, rfl, SqL.of e3', rfl, _, rfl, p3, _, 5, _, rfl, rfl, SqL.of e3', rfl, _, rfl, p3, _, 6, _, rfl, rfl, SqL.of e3', rfl, _, rfl, p3, _, 7, _, rfl, rfl, SqL.of e3', rfl, fi⟩
end
end Vf

set_option Elab.async false
set_option linter.all false
set_option maxRecDepth 100000
set_option maxHeartbeats 4000000
namespace Vf
open PySem PySem.Spec PyProof.Rows L2 L2.Vx Vs Vm
abbrev sLong : Stmt := top 28
/-! ### what is learned is a judge, and can be shown -/
theorem wd_words (W : List Wd) : (W.map fun z => (.str (mkS z) : PyData)).map Vd.wdOf = W := by
  rw [List.map_map]
  refine (List.map_congr_left fun z _ => ?_).trans (List.map_id W)
  show (mkS z).cps.toList = z
  exact mkS_cps z
theorem words_judged {sg : Wd} {n : Nat} {W : List Wd} (h : ∀ z ∈ W, z.length = n ∧ ∀ c ∈ z, c ∈ sg) (u : Up W) : Vd.wordsB sg n (wordsD W) = true := by
  show ((W.map fun z => (.str (mkS z) : PyData)).all (Vd.wordDB sg n) && Vd.riseB Vd.ltW ((W.map fun z => (.str (mkS z) : PyData)).map Vd.wdOf)) = true
  rw [wd_words, rise_up u, Bool.and_true, List.all_map, List.all_eq_true]
  intro z hz
  obtain ⟨h1, h2⟩ := h z hz
  show ((mkS z).cps.toList.all (fun c => decide (c ∈ sg)) && decide (((mkS z).cps.toList.length : Int) = n)) = true
  rw [mkS_cps, h1, decide_eq_true rfl, Bool.and_true, List.all_eq_true]
  exact fun c hc => decide_eq_true (h2 c hc)
theorem short_judged {sg : Wd} {k : Nat} {W : List Wd} (h : ∀ z ∈ W, z.length < k ∧ ∀ c ∈ z, c ∈ sg) (u : UpP W) : Vd.shorterB sg k (wordsD W) = true := by
  show ((W.map fun z => (.str (mkS z) : PyData)).all (Vd.textD sg) && ((W.map fun z => (.str (mkS z) : PyData)).all (fun d => decide (((Vd.wdOf d).length : Int) < k)) && Vd.riseB Vd.ltP ((W.map fun z => (.str (mkS z) : PyData)).map Vd.wdOf))) = true
  rw [wd_words, riseB_of u, Bool.and_true, List.all_map, List.all_map, Bool.and_eq_true, List.all_eq_true, List.all_eq_true]
  refine ⟨fun z hz => ?_, fun z hz => ?_⟩
  · show ((mkS z).cps.toList.all (fun c => decide (c ∈ sg))) = true
    rw [mkS_cps, List.all_eq_true]
    exact fun c hc => decide_eq_true ((h z hz).2 c hc)
  · show decide ((((mkS z).cps.toList.length : Nat) : Int) < k) = true
    rw [mkS_cps]
    have := (h z hz).1
    exact decide_eq_true (by omega)
theorem fis_word {k : Nat} (hk : 1 ≤ k) {zs : List Wd} {x : Wd} (h : x ∈ fis k zs) : x.length = k - 1 ∧ ∃ z ∈ zs, ∀ c ∈ x, c ∈ z := by
  obtain ⟨z, a, b, e⟩ := mem_fis.mp h
  subst e
  refine ⟨by rw [List.length_take]; omega, z, a, fun c hc => List.mem_of_mem_take hc⟩
theorem las_word {k : Nat} (hk : 1 ≤ k) {zs : List Wd} {x : Wd} (h : x ∈ las k zs) : x.length = k - 1 ∧ ∃ z ∈ zs, ∀ c ∈ x, c ∈ z := by
  obtain ⟨z, a, b, e⟩ := mem_las.mp h
  subst e
  refine ⟨by rw [List.length_drop]; omega, z, a, fun c hc => List.mem_of_mem_drop hc⟩
theorem pcs_word {k : Nat} {zs : List Wd} {x : Wd} (h : x ∈ pcs k zs) : x.length = k ∧ ∃ z ∈ zs, ∀ c ∈ x, c ∈ z := by
  obtain ⟨z, a, b, e⟩ := mem_pcs.mp h
  exact ⟨wins_len e, z, a, wins_mem e⟩
theorem lrn_judged {sg : Wd} {k : Nat} {zs : List Wd} (hk : 1 ≤ k) (h : ∀ z ∈ zs, ∀ c ∈ z, c ∈ sg) : Vd.judgeB sg (lrnD k zs) = true := by
  show (decide ((1 : Int) ≤ (k : Int)) && (Vd.shorterB sg k (wordsD (shr k zs)) && (Vd.wordsB sg ((k : Int) - 1) (wordsD (fis k zs)) && (Vd.wordsB sg ((k : Int) - 1) (wordsD (las k zs)) && Vd.wordsB sg k (wordsD (pcs k zs)))))) = true
  have e : (k : Int) - 1 = ((k - 1 : Nat) : Int) := by omega
  rw [e, decide_eq_true (by omega : (1 : Int) ≤ k), short_judged (fun z hz => ?_) (upP_shr k zs), words_judged (W := fis k zs) (fun z hz => ?_) (up_asc _), words_judged (W := las k zs) (fun z hz => ?_) (up_asc _), words_judged (W := pcs k zs) (fun z hz => ?_) (up_asc _)]
  · rfl
  · obtain ⟨a, y, b, c⟩ := pcs_word hz
    exact ⟨a, fun x hx => h y b x (c x hx)⟩
  · obtain ⟨a, y, b, c⟩ := las_word hk hz
    exact ⟨a, fun x hx => h y b x (c x hx)⟩
  · obtain ⟨a, y, b, c⟩ := fis_word hk hz
    exact ⟨a, fun x hx => h y b x (c x hx)⟩
  · obtain ⟨a, b⟩ := mem_shr.mp hz
    exact ⟨b, h z a⟩
theorem words_fitB {n m : Nat} {W : List Wd} (h : ∀ z ∈ W, z.length ≤ n ∧ ∀ c ∈ z, c < 1000) (hm : W.length ≤ m) : Fit (m * (10 * n + 4) + 3) 1 (wordsD W) := by
  have f := fit_tup (b := 10 * n + 2) (e := 0) (ds := W.map fun z => (.str (mkS z) : PyData)) fun x hx => by
    obtain ⟨z, hz, rfl⟩ := List.mem_map.mp hx
    exact fit_str (h z hz).2 (h z hz).1
  rw [List.length_map] at f
  exact f.le (by
    have : W.length * (10 * n + 2 + 2) ≤ m * (10 * n + 4) := Nat.mul_le_mul hm (Nat.le_refl _)
    omega) (Nat.le_refl _)
/-- how long the text of what is learned may be -/
theorem lrn_fit {k m : Nat} {zs : List Wd} (hk : 1 ≤ k) (hk8 : k ≤ 8) (h : ∀ z ∈ zs, ∀ c ∈ z, c < 1000) (h1 : zs.length ≤ m) (h2 : sizeW zs ≤ m) (hm : m ≤ 10000) : Fit (5 * (m * 84 + 15) + 3) 2 (lrnD k zs) := by
  have small : ∀ {x : Wd}, (∃ z ∈ zs, ∀ c ∈ x, c ∈ z) → ∀ c ∈ x, c < 1000 := fun ⟨z, a, b⟩ c hc => h z a c (b c hc)
  have w1 : Fit (m * 84 + 13) 1 (wordsD (shr k zs)) := (words_fitB (n := 8) (m := m) (fun z hz => by
    obtain ⟨a, b⟩ := mem_shr.mp hz
    exact ⟨by omega, h z a⟩) (Nat.le_trans (shr_len k zs) h1)).le (by omega) (Nat.le_refl _)
  have w2 : Fit (m * 84 + 13) 1 (wordsD (fis k zs)) := (words_fitB (n := 8) (m := m) (fun z hz => by
    obtain ⟨a, b⟩ := fis_word hk hz
    exact ⟨by omega, small b⟩) (Nat.le_trans (fis_len k zs) h1)).le (by omega) (Nat.le_refl _)
  have w3 : Fit (m * 84 + 13) 1 (wordsD (las k zs)) := (words_fitB (n := 8) (m := m) (fun z hz => by
    obtain ⟨a, b⟩ := las_word hk hz
    exact ⟨by omega, small b⟩) (Nat.le_trans (las_len k zs) h1)).le (by omega) (Nat.le_refl _)
  have w4 : Fit (m * 84 + 13) 1 (wordsD (pcs k zs)) := (words_fitB (n := 8) (m := m) (fun z hz => by
    obtain ⟨a, b⟩ := pcs_word hz
    exact ⟨by omega, small b⟩) (Nat.le_trans (pcs_len hk zs) h2)).le (by omega) (Nat.le_refl _)
  exact fit_tup (b := m * 84 + 13) (e := 1) (ds := [.int k, wordsD (shr k zs), wordsD (fis k zs), wordsD (las k zs), wordsD (pcs k zs)]) fun x hx => by
    simp only [List.mem_cons, List.not_mem_nil, or_false] at hx
    rcases hx with rfl | rfl | rfl | rfl | rfl
    · exact (fit_int (n := (k : Int)) (by omega) (by omega)).le (by omega) (by decide)
    · exact w1
    · exact w2
    · exact w3
    · exact w4
theorem Fit.shows {b e : Nat} {D : PyData} (h : Fit b e D) (hb : b ≤ 1000000) (he : e ≤ 60) : Shows D := ⟨h.sh, Nat.le_trans h.len hb, Nat.le_trans h.dep he⟩
theorem words_wide {n : Nat} {W : List Wd} (hl : W.length ≤ n) (h : ∀ z ∈ W, z.length ≤ n) : Vd.wideD n (wordsD W) := by
  show Vd.wideD n (.tuple (W.map fun z => (.str (mkS z) : PyData)))
  unfold Vd.wideD
  refine ⟨by rw [List.length_map]; exact hl, ?_⟩
  induction W with
  | nil => trivial
  | cons z r ih =>
    refine ⟨?_, ih (Nat.le_trans (Nat.le_succ _) hl) fun y hy => h y (List.mem_cons_of_mem _ hy)⟩
    show (mkS z).length ≤ n
    rw [mkS_length]
    exact h z (List.mem_cons_self ..)
theorem lrn_wide {k : Nat} {zs : List Wd} (hk : 1 ≤ k) (hk2 : k ≤ 1000) (h1 : zs.length ≤ 20) (h2 : sizeW zs ≤ 3000) : Vd.wideD 100000 (lrnD k zs) := by
  have l1 := shr_len k zs
  have l2 := fis_len k zs
  have l3 := las_len k zs
  have l4 := pcs_len hk zs
  show Vd.wideD 100000 (.tuple [.int k, wordsD (shr k zs), wordsD (fis k zs), wordsD (las k zs), wordsD (pcs k zs)])
  unfold Vd.wideD
  refine ⟨by show 5 ≤ 100000; decide, trivial, words_wide (by omega) fun z hz => ?_, words_wide (by omega) fun z hz => ?_, words_wide (by omega) fun z hz => ?_, words_wide (by omega) fun z hz => ?_, trivial⟩
  · have := (mem_shr.mp hz).2; omega
  · have := (fis_word hk hz).1; omega
  · have := (las_word hk hz).1; omega
  · have := (pcs_word hz).1; omega
end Vf

set_option Elab.async false
set_option linter.all false
set_option maxRecDepth 100000
set_option maxHeartbeats 1000000
namespace Vf
open PySem PySem.Spec PyProof.Rows L2 L2.Vx Vs Vm
/-! ### a long word -/
def spLong : Sp := fun vs H Q _ => ∃ (d g : Addr) (c : Nat), vs = [.ref d] ∧ DeckAt c H d g ∧ c + 60 ≤ most ∧ ∀ H', Q (.bl true) H'
theorem len_long : ∀ vs H Q E, spLong vs H Q E → vs.length = (["_law_deck_here"] : List Str).length := fun vs H Q E ⟨_, _, _, e, _⟩ => by
  rw [e]; rfl
structure TxtLo (mg : Str → Option Value) (fW fP : Addr) : Prop extends TxtW3 mg fW fP where
  rep : mg "repr" = none
theorem str0 : ("" : Str) = mkS [] := by decide +kernel
abbrev nLong : List Str := ["_law_deck_here", "_law_abc", "_law_wide", "_law_block", "_law_word_here", "_law_at", "_law_told", "_law_k"]
section
variable {P : Program} {w : World} {K : PySem.W.Frag} {mg : Str → Option Value} {base : Heap}
theorem scLong : FnScope nLong ["_law_deck_here"] (defScope sLong) := ⟨rfl, rfl, rfl, by decide +kernel, rfl, by decide +kernel, by decide +kernel⟩
/-- such a pair of letters and a width -/
def IsLW (H : Hp) (d g : Addr) (x : V) : Prop := ∃ (t : Addr) (sg : Wd) (k : Nat), x = .ref t ∧ H t = some (.tup [.str (mkS sg), .int k]) ∧ GoodS sg ∧ 4 ≤ k ∧ k ≤ 8 ∧ t ≠ d ∧ t ≠ g
theorem IsLW.same {H H' : Hp} {d g : Addr} {x : V} (h : IsLW H d g x) (s : Same H H') : IsLW H' d g x := by
  obtain ⟨t, sg, k, e, a, r⟩ := h
  exact ⟨t, sg, k, e, s _ _ a, r⟩
theorem IsLW.keep {H H' : Hp} {d g : Addr} {x : V} (h : IsLW H d g x) (s : Keeps d g H H') : IsLW H' d g x := by
  obtain ⟨t, sg, k, e, a, r⟩ := h
  exact ⟨t, sg, k, e, s _ _ r.2.2.2.1 r.2.2.2.2 a, r⟩
theorem ok_long {f fW fP fL fG fA fJ : Addr} {fd fdW fdP fdG fdA fdJ : FuncData} (F : Fun K "_law_long_right" "_law_long_right" sLong f fd) (T : TxtLo mg fW fP)
    (GW : FnOk P w K mg base CX0 1 fW fdW ["_law_deck_here", "_law_many"] spDraw) (bW : Binds K fdW ["_law_deck_here", "_law_many"] []) (kW : PySem.W.keepIn K (.ref fW) = true)
    (GP : FnOk P w K mg base CX0 2 fP fdP ["_law_deck_here", "_law_some"] (spPick K)) (GS : FnOk P w K mg base CX0 2 fP fdP ["_law_deck_here", "_law_some"] spPickS) (bP : Binds K fdP ["_law_deck_here", "_law_some"] []) (kP : PySem.W.keepIn K (.ref fP) = true)
    (GL : FnR P w K mg base CX0 4 fL spLrn) (kL : PySem.W.keepIn K (.ref fL) = true) (mL : mg "learned" = some (.ref fL))
    (GG : FnOk P w K mg base CX0 1 fG fdG ["_law_wide", "_law_some"] spGath) (bG : Binds K fdG ["_law_wide", "_law_some"] []) (kG : PySem.W.keepIn K (.ref fG) = true) (mG : mg "_law_gathered" = some (.ref fG))
    (GA : FnOk P w K mg base CX0 4 fA fdA ["judge", "text"] spAcc) (bA : Binds K fdA ["judge", "text"] []) (kA : PySem.W.keepIn K (.ref fA) = true) (mA : mg "accepts" = some (.ref fA))
    (GJ : FnOk P w K mg base CX0 4 fJ fdJ ["letters", "thing"] spJudgeQ) (bJ : Binds K fdJ ["letters", "thing"] []) (kJ : PySem.W.keepIn K (.ref fJ) = true) (mJ : mg "is_judge" = some (.ref fJ)) :
    FnG P w K mg base 5 f fd ["_law_deck_here"] spLong := by
  refine FunG F scLong len_long (fun cdv A outer s H vs Q E hr hg h => ?_)
  obtain ⟨d, g, c, rfl, hD, hc, q⟩ := h
  have hr1 : Room 1 _ := hr.mono (by decide)
  have hr2 : Room 2 _ := hr.mono (by decide)
  have hu : (A.deeper (envOfC "_law_long_right" (defScope sLong) s.heap.objs.size f cdv)).units + 100 < cLine := by
    have z := hr.un
    omega
  refine ⟨_, pss_cons (ps_asg (pe_call GP hr2 rfl T.pick kP bP .nil pass0 (pa_cons (pv 0) (pa_cons (pe_lst (pa_cons (pe_tup (pa_cons pe_str (pa_cons pe_int pa_nil))) (pa_cons (pe_tup (pa_cons pe_str (pa_cons pe_int pa_nil))) (pa_cons (pe_tup (pa_cons pe_str (pa_cons pe_int pa_nil))) (pa_cons (pe_tup (pa_cons pe_str (pa_cons pe_int pa_nil))) (pa_cons (pe_tup (pa_cons pe_str (pa_cons pe_int pa_nil))) pa_nil)))))) pa_nil))) (pg_tup rfl (pgs_cons (pg_name (i := 1) scLong.nd rfl (Or.inr rfl)) (pgs_cons (pg_name (i := 2) scLong.nd rfl (Or.inl rfl)) pgs_nil))))
    (pss_cons (ps_set (i := 3) scLong.nd rfl (Or.inl rfl) (pe_join pe_str (pe_lc (own := [("_law_k", 7)]) (g := gName 7) (tt := tYes) rfl scLong.nd (pi_range1 rfl T.range (pa_cons (pe_op op_add pe_int (pe_call GW hr1 rfl T.draw kW bW .nil pass0 (pa_cons (pv 0) (pa_cons pe_int pa_nil)))) pa_nil)) (blkOk_by (N := nLong) (sc := defScope sLong) (by decide +kernel)) (fun _ _ _ _ _ => (pg_name (i := 7) scLong.nd rfl (Or.inl rfl))) (fun _ _ _ _ _ => pts_nil) (fun _ _ _ _ _ => by exact pe_call GS hr2 rfl T.pick kP bP .nil pass0 (pa_cons (pv 0) (pa_cons (pv 1) pa_nil))))))
    (pss_cons (ps_set (i := 4) scLong.nd rfl (Or.inl rfl) (pe_slice sl_str (pe_op op_mul_str (pv 3) pe_int) po_none (po_some (pe_op op_add pe_int (pe_call GW hr1 rfl T.draw kW bW .nil pass0 (pa_cons (pv 0) (pa_cons pe_int pa_nil)))))))
    (pss_cons (ps_set (i := 5) scLong.nd rfl (Or.inl rfl) (pe_call GW hr1 rfl T.draw kW bW .nil pass0 (pa_cons (pv 0) (pa_cons (pe_callB call_len_str (by rfl) T.len PySem.boot_len (pa_cons (pv 4) pa_nil)) pa_nil))))
    (pss_cons (ps_set (i := 4) scLong.nd rfl (Or.inl rfl) (pe_op op_add_str (pe_op op_add_str (pe_slice sl_str (pv 4) po_none (po_some (pv 5))) (pe_call GS hr2 rfl T.pick kP bP .nil pass0 (pa_cons (pv 0) (pa_cons (pv 1) pa_nil)))) (pe_slice sl_str (pv 4) (po_some (pe_op op_add (pv 5) pe_int)) po_none)))
    (pss_cons (ps_set (i := 6) scLong.nd rfl (Or.inl rfl) (pe_callR GL hr (by rfl) mL kL pass0 (pa_cons (pv 2) (pa_cons (pv 4) (pa_cons pe_str (pa_cons (pe_slice sl_str (pv 4) po_none (po_some (pv 2))) pa_nil))))))
    (pss_cons (ps_if (PW.pt (pw_or (pt_cmpR op_ne (pe_callB (call_rep hg hu (fun _ => True)) (by rfl) T.rep (by decide +kernel) (pa_cons (pv 6) pa_nil)) (pe_callB (call_rep hg hu (fun _ => True)) (by rfl) T.rep (by decide +kernel) (pa_cons (pe_call GG hr1 rfl mG kG bG .nil pass0 (pa_cons (pv 2) (pa_cons (pe_lst (pa_cons (pv 4) (pa_cons pe_str (pa_cons (pe_slice sl_str (pv 4) po_none (po_some (pv 2))) pa_nil)))) pa_nil))) pa_nil)) (nomark _)) (pw_or1 (pt_cmpR op_notBl (pe_call GA hr rfl mA kA bA .nil pass0 (pa_cons (pv 6) (pa_cons (pv 4) pa_nil))) pe_bl (nomark _))))) (pss_one (ps_ret pe_bl)) pss_nil)
    (pss_one (ps_ret (pe_and (pe_cmpR op_isBl (pe_call GA hr rfl mA kA bA .nil pass0 (pa_cons (pv 6) (pa_cons (pe_slice sl_str (pv 4) po_none (po_some (pe_op op_sub (pv 2) pe_int))) pa_nil))) pe_bl (nomark _)) (pe_one (pe_cmpR op_isBl (pe_call GJ hr rfl mJ kJ bJ .nil pass0 (pa_cons (pv 1) (pa_cons (pv 6) pa_nil))) pe_bl (nomark _)))))))))))), ?_⟩
  -- the pairs
  refine ⟨_, rfl, ?_⟩
  have good : ∀ w ∈ ([[97], [97, 98], [97, 98, 99], [98, 100, 102, 122]] : List Wd), GoodS w := by
    intro w hw
    have : ∀ w ∈ ([[97], [97, 98], [97, 98, 99], [98, 100, 102, 122]] : List Wd), 1 ≤ w.length ∧ w.length ≤ 4 ∧ ∀ c ∈ w, 97 ≤ c ∧ c ≤ 122 := by decide
    exact this w hw
  have mk2 : ∀ {H1 : Hp} {z : Str} {i : Int} (l : Wd) (n : Nat), z = mkS l → i = (n : Int) → GoodS l → 4 ≤ n → n ≤ 8 → DeckAt c H1 d g → ∀ {t : Addr}, H1 t = none → IsLW (upd H1 t (.tup [.str z, .int i])) d g (.ref t) := by
    intro H1 z i l n ez ei gl n4 n8 hD' t ht
    subst ez ei
    exact ⟨t, _, _, rfl, upd_same, gl, n4, n8, (hD'.dn ht).1, (hD'.dn ht).2⟩
  refine ⟨(by show 2 ≤ sizeLine; decide), fun t1 ht1 => ⟨(by show 2 ≤ sizeLine; decide), fun t2 ht2 => ⟨(by show 2 ≤ sizeLine; decide), fun t3 ht3 => ⟨(by show 2 ≤ sizeLine; decide), fun t4 ht4 => ⟨(by show 2 ≤ sizeLine; decide), fun t5 ht5 => ⟨(by show 5 ≤ sizeLine; decide), fun l hl => ?_⟩⟩⟩⟩⟩⟩
  have a1 := same_new ht1 (.tup [.str "ab", .int 8])
  have a2 := same_new ht2 (.tup [.str "a", .int 8])
  have a3 := same_new ht3 (.tup [.str "ab", .int 5])
  have a4 := same_new ht4 (.tup [.str "abc", .int 5])
  have a5 := same_new ht5 (.tup [.str "bdfz", .int 4])
  have a6 := same_new hl (.lst [.ref t1, .ref t2, .ref t3, .ref t4, .ref t5])
  have i1 := (((((mk2 [97, 98] 8 (by decide +kernel) rfl (good _ (by simp)) (by decide) (by decide) hD ht1).same a2).same a3).same a4).same a5).same a6
  have i2 := ((((mk2 [97] 8 (by decide +kernel) rfl (good _ (by simp)) (by decide) (by decide) (hD.same a1) ht2).same a3).same a4).same a5).same a6
  have i3 := (((mk2 [97, 98] 5 (by decide +kernel) rfl (good _ (by simp)) (by decide) (by decide) ((hD.same a1).same a2) ht3).same a4).same a5).same a6
  have i4 := ((mk2 [97, 98, 99] 5 (by decide +kernel) rfl (good _ (by simp)) (by decide) (by decide) (((hD.same a1).same a2).same a3) ht4).same a5).same a6
  have i5 := (mk2 [98, 100, 102, 122] 4 (by decide +kernel) rfl (good _ (by simp)) (by decide) (by decide) ((((hD.same a1).same a2).same a3).same a4) ht5).same a6
  have hDl := ((((hD.same a1).same a2).same a3).same a4).same a5
  have nl := hDl.dn hl
  refine ⟨d, g, l, _, c, rfl, SqL.of upd_same, nl.1, nl.2, (by intro z; cases z), (by show 5 < 1000000; decide), hDl.same a6, by omega, fun x H1 hx hD1 k1 => ?_⟩
  have hgood : IsLW H1 d g x := by
    simp only [List.mem_cons, List.not_mem_nil, or_false] at hx
    rcases hx with rfl | rfl | rfl | rfl | rfl
    · exact i1.keep k1
    · exact i2.keep k1
    · exact i3.keep k1
    · exact i4.keep k1
    · exact i5.keep k1
  obtain ⟨t, sg, k, rfl, et1, gs, k4, k8, nt1, nt2⟩ := hgood
  clear i1 i2 i3 i4 i5 a1 a2 a3 a4 a5 a6 k1 hDl hx
  refine ⟨t, _, rfl, SqT.of et1, rfl, _, _, rfl, _, _, rfl, rfl, ?_⟩
  -- the block
  refine ⟨⟨_, rfl⟩, _, rfl, d, g, _, c + 1, rfl, by decide, by decide, hD1, by omega, fun r1 H2 b0 b1 hD2 k2 => ⟨_, _, rfl, rfl, _, rfl, by omega, by omega, fun D hD3 => ?_⟩⟩
  have nD := hD2.dn hD3
  have hls : (mkS sg).length = sg.length := mkS_length sg
  refine lc_it (walk_range (lo := 0) (n := (3 + r1).toNat)) (fun i H' => ∃ us : Wd, H' D = some (.lst (us.map fun c => V.str (mkS [c]))) ∧ us.length = i ∧ (∀ x ∈ us, x ∈ sg) ∧ DeckAt (c + 2 + i) H' d g)
    ⟨[], upd_same, rfl, (fun _ z => nomatch z), hD2.same (same_new hD3 _)⟩ (fun _ _ _ _ => trivial) ?_ ?_
  · rintro i x H3 H4 hi ⟨us, m1, m2, m3, hD4⟩ ⟨rfl, rfl⟩
    refine ⟨rfl, _, rfl, _, rfl, d, g, mkS sg, c + 2 + i, rfl, by rw [hls]; exact gs.1, by rw [hls]; have := gs.2.1; omega, hD4, by omega, fun x H5 hx hD5 k5 => ?_⟩
    rw [mkS_cps] at hx
    refine ⟨_, k5 _ _ nD.1 nD.2 m1, by rw [List.length_map, m2, sizeLine_eq]; omega, us ++ [x], ?_, by rw [List.length_append, m2]; rfl, ?_, hD5.other nD.1 nD.2 _⟩
    · rw [upd_same, List.map_append]
      rfl
    · intro y hy
      rcases List.mem_append.mp hy with hy | hy
      · exact m3 y hy
      · rw [List.mem_singleton.mp hy]; exact hx
  rintro H3 ⟨us, m1, m2, m3, hD4⟩
  have m1' : H3 D = some (.lst ((us.map fun c => mkS [c]).map V.str)) := by rw [m1, List.map_map]; rfl
  refine ⟨_, D, _, rfl, rfl, .inl (SqL.of m1'), ?_, ?_⟩
  · rw [sum_signs, List.length_map]
    show us.length + us.length * 0 ≤ _
    omega
  show tSeq _ _ _ _ _
  rw [join_signs]
  -- the word
  refine ⟨_, rfl, _, _, rfl, rfl, (show MulOk (mkS us) ((2000 : Nat) : Int) from mulOk_of (by omega) (by decide)), ?_⟩
  rw [show PySem.Txt.mul (mkS us) 2000 = mkS (times 2000 us) from mul_times us 2000]
  have tl : (times 2000 us).length = 2000 * us.length := times_length 2000 us
  refine ⟨_, rfl, d, g, _, c + 2 + (3 + r1).toNat, rfl, by decide, by decide, hD4, by omega, fun r2 H5 e0 e1 hD5 k5 => ⟨_, _, rfl, rfl, ((1900 + r2.toNat : Nat) : Int), (show V.int (1900 + r2) = V.int ((1900 + r2.toNat : Nat) : Int) from congrArg V.int (by omega)), _, rfl, by rw [mkS_length, tl, sizeLine_eq]; omega, ?_⟩⟩
  rw [cut_head]
  obtain ⟨z0, hz0, mz0, lz0⟩ : ∃ z0, (times 2000 us).take (1900 + r2.toNat) = z0 ∧ (∀ c ∈ z0, c ∈ sg) ∧ z0.length = 1900 + r2.toNat := ⟨_, rfl, fun c hc => m3 c (times_mem (List.mem_of_mem_take hc)), by rw [List.length_take, tl]; omega⟩
  rw [hz0]
  have l16 : (mkS z0).length ≤ sizeLine := by rw [mkS_length, lz0, sizeLine_eq]; omega
  have l0 : (mkS z0).length = z0.length := mkS_length z0
  refine ⟨_, rfl, _, rfl, _, rfl, l16, d, g, _, _, rfl, by rw [l0]; omega, by rw [l0]; omega, hD5, by omega, fun r3 H6 f0 f1 hD6 k6 => ?_⟩
  obtain ⟨n, rfl⟩ : ∃ n : Nat, r3 = (n : Int) := ⟨r3.toNat, by omega⟩
  rw [l0] at f1
  refine ⟨_, rfl, _, rfl, _, rfl, _, rfl, l16, ?_⟩
  rw [cut_head]
  refine ⟨_, rfl, _, rfl, d, g, mkS sg, _, rfl, by rw [hls]; exact gs.1, by rw [hls]; have := gs.2.1; omega, hD6, by omega, fun x H7 hx hD7 k7 => ?_⟩
  rw [mkS_cps] at hx
  refine ⟨_, _, rfl, rfl, ?_, _, rfl, _, rfl, _, _, rfl, rfl, ((n + 1 : Nat) : Int), (show V.int ((n : Int) + 1) = V.int ((n + 1 : Nat) : Int) from congrArg V.int (by omega)), _, rfl, l16, ?_⟩
  · rw [mkS_length, List.length_take, lz0, sizeLine_eq]
    show _ + 1 ≤ _
    omega
  rw [cut_tail (by omega)]
  refine ⟨_, _, rfl, rfl, ?_, ?_⟩
  · rw [show mkS (z0.take n) ++ (⟨#[x]⟩ : Str) = mkS (z0.take n ++ [x]) from mkS_append _ _, mkS_length, mkS_length, List.length_append, List.length_take, List.length_drop, lz0, sizeLine_eq]
    show _ + 1 + _ ≤ _
    omega
  rw [show mkS (z0.take n) ++ (⟨#[x]⟩ : Str) ++ mkS (z0.drop (n + 1)) = mkS (z0.take n ++ [x] ++ z0.drop (n + 1)) from by rw [show mkS (z0.take n) ++ (⟨#[x]⟩ : Str) = mkS (z0.take n ++ [x]) from mkS_append _ _, mkS_append]]
  obtain ⟨z, hz, mz, lz⟩ : ∃ z, z0.take n ++ [x] ++ z0.drop (n + 1) = z ∧ (∀ c ∈ z, c ∈ sg) ∧ z.length = 1900 + r2.toNat := by
    refine ⟨_, rfl, fun c hc => ?_, ?_⟩
    · rcases List.mem_append.mp hc with h | h
      · rcases List.mem_append.mp h with h | h
        · exact mz0 c (List.mem_of_mem_take h)
        · rw [List.mem_singleton.mp h]; exact hx
      · exact mz0 c (List.mem_of_mem_drop h)
    · rw [List.length_append, List.length_append, List.length_take, List.length_drop, lz0]
      show min n (1900 + r2.toNat) + 1 + _ = _
      omega
  rw [hz]
  have z16 : (mkS z).length ≤ sizeLine := by rw [mkS_length, lz, sizeLine_eq]; omega
  -- what is learned
  refine ⟨_, rfl, _, rfl, _, rfl, _, rfl, _, rfl, _, rfl, z16, ?_⟩
  rw [cut_head]
  obtain ⟨zs, ezs, zin, len3, szs, mzs, nin⟩ : ∃ zs : List Wd, [V.str (mkS z), V.str "", V.str (mkS (z.take k))] = (zs.map mkS).map .str ∧ z ∈ zs ∧ zs.length = 3 ∧ sizeW zs ≤ 2100 ∧ (∀ y ∈ zs, ∀ c ∈ y, c ∈ sg) ∧ z.take (k - 1) ∉ zs := by
    refine ⟨[z, [], z.take k], ?_, by simp, rfl, ?_, fun y hy c hc => ?_, fun h1 => ?_⟩
    · rw [str0]
      rfl
    · show z.length + (0 + ((z.take k).length + 0)) ≤ 2100
      rw [List.length_take]
      omega
    · simp only [List.mem_cons, List.not_mem_nil, or_false] at hy
      rcases hy with rfl | rfl | rfl
      · exact mz c hc
      · exact absurd hc (by simp)
      · exact mz c (List.mem_of_mem_take hc)
    · have hl : (z.take (k - 1)).length = k - 1 := by rw [List.length_take]; omega
      simp only [List.mem_cons, List.not_mem_nil, or_false] at h1
      rcases h1 with h1 | h1 | h1
      · have := congrArg List.length h1
        omega
      · have := congrArg List.length h1
        rw [hl] at this
        have e : ([] : Wd).length = 0 := rfl
        omega
      · have := congrArg List.length h1
        rw [hl, List.length_take] at this
        omega
  have kb : ∀ y ∈ zs, ∀ c ∈ y, c < 1000 := fun y hy c hc => Nat.lt_of_le_of_lt (gs.2.2 c (mzs y hy c hc)).2 (by decide)
  have shw : Shows (lrnD k zs) := (lrn_fit (m := 2100) (by omega) k8 kb (by omega) szs (by decide)).shows (by decide) (by decide)
  have any : ∀ {H' : Hp} {S : Addr → Prop} {v : V} {D : PyData}, Dt H' S v D → Dt H' (fun _ => True) v D := fun h => h.mono (fun _ _ _ e => e) fun _ _ _ _ => trivial
  have lp : (pcs k zs).length ≤ 4000 := by have := pcs_len (k := k) (by omega) zs; omega
  have a1 := acc_all (k := k) zin
  have a2 : acc k (shr k zs) (fis k zs) (las k zs) (pcs k zs) (z.take (k - 1)) = false := by
    unfold acc
    rw [if_pos (by rw [List.length_take]; omega)]
    exact decide_eq_false fun h => nin (mem_shr.mp h).1
  have jd := lrn_judged (sg := sg) (k := k) (zs := zs) (by omega) mzs
  have wd := lrn_wide (k := k) (zs := zs) (by omega) (by omega) (by omega) (by omega)
  refine ⟨k, zs, congrArg (V.int k :: ·) ezs, by omega, by omega, by omega, by omega, fun v H8 s8 hv => ?_⟩
  refine ⟨_, rfl, _, _, rfl, any hv, shw, ?_⟩
  generalize hk : (lrnD k zs).shown = kept
  refine ⟨_, rfl, _, rfl, _, rfl, _, rfl, _, rfl, _, rfl, z16, ?_⟩
  rw [cut_head]
  refine ⟨(by show 3 ≤ sizeLine; decide), fun l2 hl2 => ?_⟩
  have s9 := same_new hl2 (.lst [.str (mkS z), .str "", .str (mkS (z.take k))])
  refine ⟨k, l2, zs, rfl, by rw [upd_same, ezs], by omega, by omega, by omega, by omega, fun v2 H10 s10 hv2 => ?_⟩
  refine ⟨_, _, rfl, any hv2, shw, ?_⟩
  rw [hk]
  refine ⟨rfl, _, rfl, if_fl' (by simp) ?_⟩
  have hv10 := dt_same hv (s9.trans s10)
  refine ⟨_, rfl, _, rfl, v, k, _, _, _, _, z, _, rfl, hv10, by omega, by omega, by omega, lp, fun H11 s11 => ⟨_, _, rfl, rfl, _, rfl, ?_⟩⟩
  rw [a1]
  refine if_fl' rfl ?_
  have hv11 := dt_same hv10 s11
  refine ⟨_, rfl, _, rfl, _, rfl, _, _, rfl, rfl, ((k - 1 : Nat) : Int), (show V.int ((k : Int) - 1) = V.int ((k - 1 : Nat) : Int) from congrArg V.int (by omega)), _, rfl, z16, ?_⟩
  rw [cut_head]
  refine ⟨v, k, _, _, _, _, z.take (k - 1), _, rfl, hv11, by omega, by omega, by rw [List.length_take]; omega, lp, fun H12 s12 => ⟨_, _, rfl, rfl, _, rfl, ?_⟩⟩
  rw [a2]
  refine ite2 (fun _ => ?_) (fun x => absurd (decide_eq_true rfl) x)
  refine ⟨_, rfl, _, rfl, sg, v, _, _, rfl, dt_same hv11 s12, wd, fun H13 s13 => ⟨_, _, rfl, rfl, ?_⟩⟩
  rw [jd, decide_eq_true rfl]
  exact q H13
end
end Vf

set_option Elab.async false
set_option linter.all false
set_option maxRecDepth 100000
set_option maxHeartbeats 2000000
namespace Vf
open PySem PySem.Spec PyProof.Rows L2 L2.Vx Vs Vm
abbrev sLaw : Stmt := top 29
/-! ### the law -/
abbrev nLaw : List Str := ["_law_script", "_law_deck_here", "_law_go", "_law_abc", "_law_wide", "_law_some", "_law_due", "_law_told", "_law_more", "_law_less_here", "_law_turn", "_law_word_here", "_law_it", "_law_at"]
abbrev scA : Scope := { kind := .function, names := [(".0", .local), ("_law_it", .cell), ("_law_some", .cell)], isGenerator := false, isCoroutine := false, more := [] }
abbrev scB : Scope := { kind := .function, names := [(".0", .local), ("_law_at", .cell), ("_law_less_here", .cell), ("_law_more", .cell)], isGenerator := false, isCoroutine := false, more := [] }
theorem eqNil_at {K : PySem.W.Frag} {X : Cx} (e : X.K = K) (hu : X.A.units + 64 < cLine) : OpR X (compareOp .Eq) (fun x y H Q => ∃ a b xs, x = .ref a ∧ y = .ref b ∧ SqL K H a xs ∧ SqL K H b [] ∧ Q (.bl xs.isEmpty) H) := e ▸ Vd.op_eqNil hu
theorem neNil_atK {K : PySem.W.Frag} {X : Cx} (e : X.K = K) (hu : X.A.units + 64 < cLine) : OpR X (compareOp .NotEq) (fun x y H Q => ∃ a b xs, x = .ref a ∧ y = .ref b ∧ SqL K H a xs ∧ SqL K H b [] ∧ Q (.bl (!xs.isEmpty)) H) := e ▸ Vd.op_neNil hu
theorem piL_at {K : PySem.W.Frag} {X : Cx} {tg l : Expr} {tl : TE} (e : X.K = K) (hl : PE X l tl) : PI X tg l (iList K tl) := e ▸ pi_list hl
theorem ixL_at {K : PySem.W.Frag} {X : Cx} (e : X.K = K) : IxR X (rIxL K) := e ▸ ix_list
theorem seq_ways {a b : TS} {D : Ends} {σ : L2.St} {H : Hp} (A : L2.St → Hp → Prop) (f : (∀ σ' H', A σ' H' → b D σ' H') → a { D with nx := b D } σ H) (r : ∀ σ' H', A σ' H' → b D σ' H') : tSeq a b D σ H := f r
theorem notIn_word {z : Wd} {L : List Wd} : (if true = true then !inV (.str (mkS z)) ((L.map mkS).map V.str) else inV (.str (mkS z)) ((L.map mkS).map V.str)) = !decide (z ∈ L) := by
  rw [if_pos rfl, inV_word]
theorem dt_keep {H H' : Hp} {S : Addr → Prop} {d g : Addr} {v : V} {D : PyData} (h : Dt H S v D) (kp : Keeps d g H H') (hs : ∀ a, S a → a ≠ d ∧ a ≠ g) : Dt H' S v D := h.mono (fun a o sa e => kp a o (hs a sa).1 (hs a sa).2 e) fun _ _ x _ => x
theorem dt_dg {H H' : Hp} {c : Nat} {d g : Addr} {v : V} {D : PyData} (h : Dt H' (New H) v D) (hD : DeckAt c H d g) : Dt H' (fun a => a ≠ d ∧ a ≠ g) v D := h.mono (fun _ _ _ e => e) fun _ _ na _ => hD.dn na
theorem dt_any' {H : Hp} {S : Addr → Prop} {v : V} {D : PyData} (h : Dt H S v D) : Dt H (fun _ => True) v D := h.mono (fun _ _ _ e => e) fun _ _ _ _ => trivial
theorem wAt_mono {k : Nat} {l m : List Wd} (h : ∀ x ∈ l, x ∈ m) : ∀ {i : Nat} {x : Wd}, x ∈ wAt k l i → x ∈ wAt k m i
  | 0, x, e => by
    obtain ⟨a, b⟩ := mem_shr.mp e
    exact mem_shr.mpr ⟨h x a, b⟩
  | 1, x, e => by
    obtain ⟨z, a, b⟩ := mem_fis.mp e
    exact mem_fis.mpr ⟨z, h z a, b⟩
  | 2, x, e => by
    obtain ⟨z, a, b⟩ := mem_las.mp e
    exact mem_las.mpr ⟨z, h z a, b⟩
  | _ + 3, x, e => by
    obtain ⟨z, a, b⟩ := mem_pcs.mp (show x ∈ pcs k l from e)
    exact mem_pcs.mpr ⟨z, h z a, b⟩
theorem cutV_to {xs : List V} {i : Nat} : cutV xs none (some (i : Int)) = xs.take i := Vd.cutG_to
theorem small_ok {sg : Wd} {zs : List Wd} (h : ∀ z ∈ zs, z.length ≤ 10 ∧ ∀ x ∈ z, x ∈ sg) (hl : zs.length ≤ 8) : sizeW zs ≤ 80 := by
  have := sizeW_le (B := 10) fun z hz => (h z hz).1
  omega
theorem judge_lit {H : Hp} {e1 e2 e3 e4 ej : Addr} {x1 x2 x3 x4 : List V} {k : Int} (h1 : H e1 = none) (h2 : upd H e1 (.tup x1) e2 = none) (h3 : upd (upd H e1 (.tup x1)) e2 (.tup x2) e3 = none) (h4 : upd (upd (upd H e1 (.tup x1)) e2 (.tup x2)) e3 (.tup x3) e4 = none) (h5 : upd (upd (upd (upd H e1 (.tup x1)) e2 (.tup x2)) e3 (.tup x3)) e4 (.tup x4) ej = none)
    (j : Nat) (S F L P : List Wd) (hk : k = (j : Nat)) (q1 : x1 = (S.map mkS).map .str) (q2 : x2 = (F.map mkS).map .str) (q3 : x3 = (L.map mkS).map .str) (q4 : x4 = (P.map mkS).map .str) :
    ∃ HJ, HJ = upd (upd (upd (upd (upd H e1 (.tup x1)) e2 (.tup x2)) e3 (.tup x3)) e4 (.tup x4)) ej (.tup [.int k, .ref e1, .ref e2, .ref e3, .ref e4]) ∧ Same H HJ ∧ Dt HJ (fun _ => True) (.ref ej) (judgeD j S F L P) := by
  subst q1 q2 q3 q4 hk
  have c1 := same_new h1 (.tup ((S.map mkS).map .str))
  have c2 := same_new h2 (.tup ((F.map mkS).map .str))
  have c3 := same_new h3 (.tup ((L.map mkS).map .str))
  have c4 := same_new h4 (.tup ((P.map mkS).map .str))
  have c5 := same_new h5 (.tup [.int j, .ref e1, .ref e2, .ref e3, .ref e4])
  refine ⟨_, rfl, (((c1.trans c2).trans c3).trans c4).trans c5, .tup upd_same trivial (.cons (.flat (show FlatD (.int j) (.int j) from rfl)) (.cons (dt_ofWords ?_ trivial) (.cons (dt_ofWords ?_ trivial) (.cons (dt_ofWords ?_ trivial) (.cons (dt_ofWords ?_ trivial) .nil)))))⟩
  · exact c5 _ _ (c4 _ _ (c3 _ _ (c2 _ _ upd_same)))
  · exact c5 _ _ (c4 _ _ (c3 _ _ upd_same))
  · exact c5 _ _ (c4 _ _ upd_same)
  · exact c5 _ _ upd_same
theorem lrn_a : lrnD 2 [] = judgeD 2 [] [] [] [] := by
  unfold lrnD
  rw [show shr 2 [] = [] from by unfold shr; rw [show ((asc []).filter fun z => decide (z.length < 2)) = [] from rfl, List.mergeSort_nil], show fis 2 [] = [] from rfl, show las 2 [] = [] from rfl, show pcs 2 [] = [] from rfl]
theorem lrn_b : lrnD 2 [[97, 98, 97, 98]] = judgeD 2 [] [[97]] [[98]] [[97, 98], [98, 97]] := by
  unfold lrnD
  rw [show shr 2 [[97, 98, 97, 98]] = [] from by unfold shr; rw [show ((asc [[97, 98, 97, 98]]).filter fun z => decide (z.length < 2)) = [] from by decide +kernel, List.mergeSort_nil],
    show fis 2 [[97, 98, 97, 98]] = [[97]] from by decide +kernel, show las 2 [[97, 98, 97, 98]] = [[98]] from by decide +kernel, show pcs 2 [[97, 98, 97, 98]] = [[97, 98], [98, 97]] from by decide +kernel]
theorem lrn_c : lrnD 1 [[]] = judgeD 1 [[]] [] [] [] := by
  unfold lrnD
  rw [show shr 1 [[]] = [[]] from by unfold shr; rw [show ((asc [[]]).filter fun z => decide (z.length < 1)) = [[]] from by decide +kernel, List.mergeSort_singleton],
    show fis 1 [[]] = [] from by decide +kernel, show las 1 [[]] = [] from by decide +kernel, show pcs 1 [[]] = [] from by decide +kernel]
theorem str_abab : ("abab" : Str) = mkS [97, 98, 97, 98] := by decide +kernel
def spLaw (K : PySem.W.Frag) : Sp := fun vs H Q _ => ∃ (a : Addr) (ns : List Int), vs = [.ref a] ∧ SqL K H a (ns.map V.int) ∧ ns.length ≤ 63 ∧ ∀ H', Q (.bl true) H'
structure TxtL (mg : Str → Option Value) (fW fP fK : Addr) : Prop extends TxtLo mg fW fP where
  deck : mg "_law_deck" = some (.ref fK)
section
variable {P : Program} {w : World} {K : PySem.W.Frag} {mg : Str → Option Value} {base : Heap}
theorem scLaw : FnScope nLaw ["_law_script"] (defScope sLaw) := ⟨rfl, rfl, rfl, by decide +kernel, rfl, by decide +kernel, by decide +kernel⟩
theorem ok_law {f fW fP fK fZ fN fG fQ fT fJ fA fE fL fO : Addr} {fd fdW fdK fdZ fdN fdG fdQ fdT fdJ fdA fdE fdO : FuncData} (F : Fun K "law" "law" sLaw f fd) (T : TxtL mg fW fP fK)
    (GK : FnOk P w K mg base CX0 1 fK fdK ["_law_script"] (spDeck K)) (bK : Binds K fdK ["_law_script"] []) (kK : PySem.W.keepIn K (.ref fK) = true)
    (GW : FnOk P w K mg base CX0 1 fW fdW ["_law_deck_here", "_law_many"] spDraw) (bW : Binds K fdW ["_law_deck_here", "_law_many"] []) (kW : PySem.W.keepIn K (.ref fW) = true)
    (GZ : FnOk P w K mg base CX0 3 fZ fdZ ["_law_deck_here"] spSizes) (bZ : Binds K fdZ ["_law_deck_here"] []) (kZ : PySem.W.keepIn K (.ref fZ) = true) (mZ : mg "_law_sizes" = some (.ref fZ))
    (GN : FnOk P w K mg base CX0 3 fN fdN ["_law_deck_here", "_law_abc"] spWordK) (bN : Binds K fdN ["_law_deck_here", "_law_abc"] []) (kN : PySem.W.keepIn K (.ref fN) = true) (mN : mg "_law_word" = some (.ref fN))
    (GG : FnOk P w K mg base CX0 1 fG fdG ["_law_wide", "_law_some"] spGath) (bG : Binds K fdG ["_law_wide", "_law_some"] []) (kG : PySem.W.keepIn K (.ref fG) = true) (mG : mg "_law_gathered" = some (.ref fG))
    (GQ : FnOk P w K mg base CX0 5 fQ fdQ ["_law_wide", "_law_some"] spLl) (bQ : Binds K fdQ ["_law_wide", "_law_some"] []) (kQ : PySem.W.keepIn K (.ref fQ) = true) (mQ : mg "_law_learned" = some (.ref fQ))
    (GT : FnOk P w K mg base CX0 2 fT fdT ["_law_deck_here", "_law_some"] spTurned) (bT : Binds K fdT ["_law_deck_here", "_law_some"] []) (kT : PySem.W.keepIn K (.ref fT) = true) (mT : mg "_law_turned" = some (.ref fT))
    (GJ : FnOk P w K mg base CX0 4 fJ fdJ ["letters", "thing"] spJudgeQ) (bJ : Binds K fdJ ["letters", "thing"] []) (kJ : PySem.W.keepIn K (.ref fJ) = true) (mJ : mg "is_judge" = some (.ref fJ))
    (GA : FnOk P w K mg base CX0 4 fA fdA ["judge", "text"] spAcc) (bA : Binds K fdA ["judge", "text"] []) (kA : PySem.W.keepIn K (.ref fA) = true) (mA : mg "accepts" = some (.ref fA))
    (GE : FnOk P w K mg base CX0 1 fE fdE ["_law_it"] spLess) (bE : Binds K fdE ["_law_it"] []) (kE : PySem.W.keepIn K (.ref fE) = true) (mE : mg "_law_less" = some (.ref fE))
    (GL : FnR P w K mg base CX0 4 fL spLrn) (kL : PySem.W.keepIn K (.ref fL) = true) (mL : mg "learned" = some (.ref fL))
    (GO : FnG P w K mg base 5 fO fdO ["_law_deck_here"] spLong) (bO : Binds K fdO ["_law_deck_here"] []) (kO : PySem.W.keepIn K (.ref fO) = true) (mO : mg "_law_long_right" = some (.ref fO)) :
    FnG P w K mg base 6 f fd ["_law_script"] (spLaw K) := by
  refine FunG F scLaw (fun vs H Q E h => ?_) (fun cdv A outer s H vs Q E hr hg h => ?_)
  · obtain ⟨a, ns, rfl, _⟩ := h
    rfl
  obtain ⟨a, ns, rfl, hS, h63, q⟩ := h
  have hr1 : Room 1 _ := hr.mono (by decide)
  have hr2 : Room 2 _ := hr.mono (by decide)
  have hr3 : Room 3 _ := hr.mono (by decide)
  have hr4 : Room 4 _ := hr.mono (by decide)
  have hu : (A.deeper (envOfC "law" (defScope sLaw) s.heap.objs.size f cdv)).units + 100 < cLine := by
    have z := hr.un
    omega
  refine ⟨_, pss_cons (ps_set (i := 1) scLaw.nd rfl (Or.inr rfl) (pe_call GK hr1 rfl T.deck kK bK .nil pass0 (pa_cons (pv 0) pa_nil)))
    (pss_cons (ps_for PassesOwn.never rfl (pi_range1 rfl T.range (pa_cons pe_int pa_nil)) (pg_name (i := 2) scLaw.nd rfl (Or.inl rfl))
     (pss_cons (ps_asg (pe_call GZ hr3 rfl mZ kZ bZ .nil pass0 (pa_cons (pv 1) pa_nil)) (pg_tup rfl (pgs_cons (pg_name (i := 3) scLaw.nd rfl (Or.inr rfl)) (pgs_cons (pg_name (i := 4) scLaw.nd rfl (Or.inl rfl)) pgs_nil))))
      (pss_cons (ps_set (i := 5) scLaw.nd rfl (Or.inr rfl) (pe_lc (own := [("_law_turn", 10)]) (g := gName 10) (tt := tYes) rfl scLaw.nd (pi_range1 rfl T.range (pa_cons (pe_call GW hr1 rfl T.draw kW bW .nil pass0 (pa_cons (pv 1) (pa_cons pe_int pa_nil))) pa_nil)) (blkOk_by (N := nLaw) (sc := defScope sLaw) (by decide +kernel)) (fun _ _ _ _ _ => (pg_name (i := 10) scLaw.nd rfl (Or.inl rfl))) (fun _ _ _ _ _ => pts_nil) (fun _ _ _ _ _ => by exact (pe_call GN hr3 rfl mN kN bN .nil pass0 (pa_cons (pv 1) (pa_cons (pv 3) pa_nil))))))
      (pss_cons (ps_if (PW.pt (pw_and (pt_cmpR (Vd.op_neNil hr.units) (pv 5) (pe_lst pa_nil) (nomark _)) (pw_and1 (pt_cmpR op_eq (pe_call GW hr1 rfl T.draw kW bW .nil pass0 (pa_cons (pv 1) (pa_cons pe_int pa_nil))) pe_int (nomark _))))) (pss_one (ps_expr (pe_bm PySem.F.plainAttrs_list PySem.F.slot_list_append PySem.F.type_list_append mt_append (pv 5) (pa_cons (pe_ix ix_list (pv 5) pe_int (fun _ _ => rfl)) pa_nil)))) pss_nil)
      (pss_cons (ps_set (i := 6) scLaw.nd rfl (Or.inl rfl) (pe_call GG hr1 rfl mG kG bG .nil pass0 (pa_cons (pv 4) (pa_cons (pv 5) pa_nil))))
      (pss_cons (ps_set (i := 7) scLaw.nd rfl (Or.inr rfl) (pe_lst (pa_cons (pe_call GQ hr rfl mQ kQ bQ .nil pass0 (pa_cons (pv 4) (pa_cons (pv 5) pa_nil))) (pa_cons (pe_call GQ hr rfl mQ kQ bQ .nil pass0 (pa_cons (pv 4) (pa_cons (pe_call GT hr2 rfl mT kT bT .nil pass0 (pa_cons (pv 1) (pa_cons (pv 5) pa_nil))) pa_nil))) pa_nil))))
      (pss_cons (ps_if (PW.pt (pw_or (pt_cmpR op_ne (pe_callB (call_rep hg hu (fun _ => True)) (by rfl) T.rep (by decide +kernel) (pa_cons (pv 7) pa_nil)) (pe_callB (call_rep hg hu (fun _ => True)) (by rfl) T.rep (by decide +kernel) (pa_cons (pe_lst (pa_cons (pv 6) (pa_cons (pv 6) pa_nil))) pa_nil)) (nomark _)) (pw_or1 (pt_cmpR op_notBl (pe_call GJ hr4 rfl mJ kJ bJ .nil pass0 (pa_cons (pv 3) (pa_cons (pe_ix ix_list (pv 7) pe_int (fun _ _ => rfl)) pa_nil))) pe_bl (nomark _))))) (pss_one (ps_ret pe_bl)) pss_nil)
      (pss_cons (ps_if (pt_cmpR (Vd.op_neNil hr.units) (pe_lc (own := [("_law_word_here", 11)]) (g := gName 11) (tt := _) rfl scLaw.nd (pi_list (pv 5)) (blkOk_by (N := nLaw) (sc := defScope sLaw) (by decide +kernel)) (fun _ _ _ _ _ => (pg_name (i := 11) scLaw.nd rfl (Or.inl rfl))) (fun _ _ _ _ _ => pts_one (pt_cmpR op_notBl (pe_call GA hr4 rfl mA kA bA .nil pass0 (pa_cons (pe_ix (ixL_at rfl) (pv 7) pe_int (fun _ _ => rfl)) (pa_cons (pv 11) pa_nil))) pe_bl (nomark _))) (fun _ _ _ _ _ => by exact pv 11)) (pe_lst pa_nil) (nomark _)) (pss_one (ps_ret pe_bl)) pss_nil)
      (pss_cons (ps_if (pt_cmpR (Vd.op_neNil hr.units) (pe_lc (own := [("_law_it", 12)]) (g := gName 12) (tt := _) rfl scLaw.nd (pi_list (pe_call GE hr1 rfl mE kE bE .nil pass0 (pa_cons (pv 6) pa_nil))) (blkOk_by (N := nLaw) (sc := defScope sLaw) (by decide +kernel)) (fun _ _ _ _ _ => (pg_name (i := 12) scLaw.nd rfl (Or.inr rfl))) (fun _ _ _ _ _ => by exact pts_one (pt_cmpR (eqNil_at (K := K) rfl hr.units) (pe_lc (own := [("_law_word_here", 11)]) (g := gName 11) (tt := _) rfl scLaw.nd (piL_at (K := K) rfl (pv 5)) (blkOk_by (N := nLaw) (sc := scA) (by decide +kernel)) (fun _ _ _ _ _ => (pg_name (i := 11) scLaw.nd rfl (Or.inl rfl))) (fun _ _ _ _ _ => by exact pts_one (pt_not (pt_val (pe_call GA hr4 rfl mA kA bA .nil pass0 (pa_cons (pv 12) (pa_cons (pv 11) pa_nil)))))) (fun _ _ _ _ _ => by exact pv 11)) (pe_lst pa_nil) (nomark _))) (fun _ _ _ _ _ => by exact pv 12)) (pe_lst pa_nil) (nomark _)) (pss_one (ps_ret pe_bl)) pss_nil)
      (pss_cons (ps_asg (pe_tup (pa_cons (pe_call GQ hr rfl mQ kQ bQ .nil pass0 (pa_cons (pv 4) (pa_cons (pe_op op_cat (pe_slice sl_list (pv 5) po_none (po_some pe_int)) (pe_lst (pa_cons (pe_call GN hr3 rfl mN kN bN .nil pass0 (pa_cons (pv 1) (pa_cons (pv 3) pa_nil))) pa_nil))) pa_nil))) (pa_cons (pe_call GG hr1 rfl mG kG bG .nil pass0 (pa_cons (pv 4) (pa_cons (pe_slice sl_list (pv 5) po_none (po_some pe_int)) pa_nil))) pa_nil))) (pg_tup rfl (pgs_cons (pg_name (i := 8) scLaw.nd rfl (Or.inr rfl)) (pgs_cons (pg_name (i := 9) scLaw.nd rfl (Or.inr rfl)) pgs_nil))))
      (pss_one (ps_if (pt_cmpR (Vd.op_neNil hr.units) (pe_lc (own := [("_law_at", 13)]) (g := gName 13) (tt := _) rfl scLaw.nd (pi_range2 rfl T.range (pa_cons pe_int (pa_cons pe_int pa_nil))) (blkOk_by (N := nLaw) (sc := defScope sLaw) (by decide +kernel)) (fun _ _ _ _ _ => (pg_name (i := 13) scLaw.nd rfl (Or.inr rfl))) (fun _ _ _ _ _ => by exact pts_one (pt_cmpR (neNil_atK (K := K) rfl hr.units) (pe_lc (own := [("_law_it", 12)]) (g := gName 12) (tt := _) rfl scLaw.nd (piT_at (K := K) rfl (pe_ix (ixT_at rfl) (pv 9) (pv 13) (fun _ _ => rfl))) (blkOk_by (N := nLaw) (sc := scB) (by decide +kernel)) (fun _ _ _ _ _ => (pg_name (i := 12) scLaw.nd rfl (Or.inl rfl))) (fun _ _ _ _ _ => by exact pts_one (pt_cmpR (ninq_at (K := K) rfl) (pv 12) (pe_ix (ixT_at rfl) (pv 8) (pv 13) (fun _ _ => rfl)) (by rfl))) (fun _ _ _ _ _ => by exact pv 12)) (pe_lst pa_nil) (nomark _))) (fun _ _ _ _ _ => by exact pv 13)) (pe_lst pa_nil) (nomark _)) (pss_one (ps_ret pe_bl)) pss_nil))))))))))))
    (pss_cons (ps_set (i := 7) scLaw.nd rfl (Or.inr rfl) (pe_lst (pa_cons (pe_callR GL hr4 (by rfl) mL kL pass0 (pa_cons pe_int pa_nil)) (pa_cons (pe_callR GL hr4 (by rfl) mL kL pass0 (pa_cons pe_int (pa_cons pe_str pa_nil))) (pa_cons (pe_callR GL hr4 (by rfl) mL kL pass0 (pa_cons pe_int (pa_cons pe_str pa_nil))) pa_nil)))))
    (pss_cons (ps_set (i := 6) scLaw.nd rfl (Or.inl rfl) (pe_lst (pa_cons (pe_tup (pa_cons pe_int (pa_cons (pe_tup pa_nil) (pa_cons (pe_tup pa_nil) (pa_cons (pe_tup pa_nil) (pa_cons (pe_tup pa_nil) pa_nil)))))) (pa_cons (pe_tup (pa_cons pe_int (pa_cons (pe_tup pa_nil) (pa_cons (pe_tup (pa_cons pe_str pa_nil)) (pa_cons (pe_tup (pa_cons pe_str pa_nil)) (pa_cons (pe_tup (pa_cons pe_str (pa_cons pe_str pa_nil))) pa_nil)))))) (pa_cons (pe_tup (pa_cons pe_int (pa_cons (pe_tup (pa_cons pe_str pa_nil)) (pa_cons (pe_tup pa_nil) (pa_cons (pe_tup pa_nil) (pa_cons (pe_tup pa_nil) pa_nil)))))) pa_nil)))))
    (pss_one (ps_ret (pe_and (pe_cmpR op_eq (pe_callB (call_rep hg hu (fun _ => True)) (by rfl) T.rep (by decide +kernel) (pa_cons (pv 7) pa_nil)) (pe_callB (call_rep hg hu (fun _ => True)) (by rfl) T.rep (by decide +kernel) (pa_cons (pv 6) pa_nil)) (nomark _)) (pe_one (pe_callG GO len_long hg hr rfl mO kO bO .nil pass0 (pa_cons (pv 1) pa_nil))))))))), ?_⟩
  refine ⟨_, rfl, a, ns, rfl, hS, h63, fun d g H1 s1 nd ng hD1 => ?_⟩
  refine ⟨6, rfl, by decide, by decide, for_range (lo := 0) (n := 6) (fun i σ H' => ∃ v2 v3 v4 v5 v6 v7 v8 v9, σ = [some (.ref a), some (.ref d), v2, v3, v4, v5, v6, v7, v8, v9, none, none, none, none] ∧ DeckAt (200 * i) H' d g)
    ⟨none, none, none, none, none, none, none, none, rfl, hD1⟩ ?_ ?_⟩
  · rintro i σ H1 hi ⟨v2, v3, v4, v5, v6, v7, v8, v9, rfl, hD1⟩
    have hm : 200 * i + 200 ≤ most := by unfold most; omega
    generalize hc0 : 200 * i = c at hD1 hm
    refine ⟨_, rfl, d, g, c, rfl, hD1, by omega, fun sg k p H2 gs k1 k4 hp hD2 kp => ?_⟩
    refine ⟨p, _, rfl, SqT.of hp, rfl, _, _, rfl, _, _, rfl, rfl, ?_⟩
    clear hp kp hD1
    -- the words
    refine ⟨_, rfl, d, g, _, c + 2, rfl, by decide, by decide, hD2, by omega, fun r H3 r0 r1 hD3 _ => ⟨r, rfl, by omega, by omega, fun D hDD => ?_⟩⟩
    have nD := hD3.dn hDD
    refine lc_it (walk_range (lo := 0) (n := r.toNat)) (fun j H' => ∃ zs : List Wd, H' D = some (.lst ((zs.map mkS).map .str)) ∧ zs.length = j ∧ (∀ z ∈ zs, z.length ≤ 10 ∧ ∀ x ∈ z, x ∈ sg) ∧ DeckAt (c + 3 + 20 * j) H' d g)
      ⟨[], upd_same, rfl, (fun _ z => nomatch z), hD3.same (same_new hDD _)⟩ (fun _ _ _ _ => trivial) ?_ ?_
    · rintro j x H4 H5 hj ⟨zs, m1, m2, m3, hD4⟩ ⟨rfl, rfl⟩
      refine ⟨rfl, _, rfl, _, rfl, d, g, sg, c + 3 + 20 * j, rfl, gs, hD4, by omega, fun z H6 z1 z2 hD6 k6 => ?_⟩
      refine ⟨_, k6 _ _ nD.1 nD.2 m1, by rw [List.length_map, List.length_map, m2, sizeLine_eq]; omega, zs ++ [z], by rw [upd_same, strs_snoc], by rw [List.length_append, m2]; rfl, fun y hy => ?_, (hD6.other nD.1 nD.2 _).le (by omega)⟩
      rcases List.mem_append.mp hy with h | h
      · exact m3 y h
      · rw [List.mem_singleton.mp h]
        exact ⟨z1, z2⟩
    rintro H4 ⟨zs0, m1, m2, m3, hD4⟩
    have hz7 : zs0.length ≤ 7 := by omega
    clear hD3 hD2 hDD
    unfold gName
    dsimp only
    refine seq_ways (fun σ' H' => ∃ zs : List Wd, σ' = [some (.ref a), some (.ref d), some (.int (0 + (i : Nat))), some (.str (mkS sg)), some (.int k), some (.ref D), v6, v7, v8, v9, none, none, none, none] ∧ H' D = some (.lst ((zs.map mkS).map .str)) ∧ zs.length ≤ 8 ∧ (∀ z ∈ zs, z.length ≤ 10 ∧ ∀ x ∈ z, x ∈ sg) ∧ DeckAt (c + 145) H' d g) (fun cont => ?_) ?_
    · refine ⟨_, rfl, (by show 0 ≤ sizeLine; decide), fun pe hpe => ⟨D, pe, _, rfl, rfl, SqL.of (same_new hpe _ _ _ m1), SqL.of upd_same, _, rfl, ?_⟩⟩
      have hDe := hD4.same (same_new hpe (.lst []))
      have me := same_new hpe (.lst []) _ _ m1
      generalize upd H4 pe (.lst []) = H5 at hDe me ⊢
      match zs0, m2, m3, hz7, me with
      | [], _, _, _, me =>
        refine if_fl' rfl ?_
        exact cont _ _ ⟨[], rfl, me, by decide, (fun _ z => nomatch z), hDe.le (by omega)⟩
      | z :: rest, m2, m3, hz7, me =>
        refine ite2 (fun _ => ?_) (fun x => absurd rfl x)
        refine ⟨_, rfl, d, g, _, _, rfl, by decide, by decide, hDe, by omega, fun r2 H6 q0 q1 hD6 k6 => ⟨rfl, _, rfl, ?_⟩⟩
        have m6 := k6 _ _ nD.1 nD.2 me
        refine ite2 (fun _ => ?_) (fun _ => ?_)
        · refine ⟨_, rfl, .inl ⟨rfl, _, SqL.of m6⟩, _, rfl, D, _, 0, _, rfl, rfl, SqL.of m6, atI_nat (j := 0) rfl, D, _, _, rfl, rfl, m6, ?_, ?_⟩
          · rw [List.length_map, List.length_map, sizeLine_eq]
            omega
          refine cont _ _ ⟨z :: rest ++ [z], rfl, by rw [upd_same, strs_snoc], ?_, fun y hy => ?_, (hD6.other nD.1 nD.2 _).le (by omega)⟩
          · rw [List.length_append]
            show _ + 1 ≤ 8
            omega
          · rcases List.mem_append.mp hy with h | h
            · exact m3 y h
            · rw [List.mem_singleton.mp h]
              exact m3 z (List.mem_cons_self ..)
        · exact cont _ _ ⟨z :: rest, rfl, m6, by omega, m3, hD6.le (by omega)⟩
    clear hD4 m1 m2 m3 hz7
    rintro σ' H5 ⟨zs, rfl, m1, hz8, m3, hD5⟩
    have sz := small_ok m3 hz8
    have m100 : ∀ z ∈ zs, z.length ≤ 100 := fun z hz => Nat.le_trans (m3 z hz).1 (by decide)
    have mlet : ∀ z ∈ zs, ∀ x ∈ z, x ∈ sg := fun z hz => (m3 z hz).2
    have mlow : ∀ z ∈ zs, ∀ x ∈ z, x < 1000 := fun z hz x hx => Nat.lt_of_le_of_lt (gs.2.2 x (mlet z hz x hx)).2 (by decide)
    have fit := lrn_fit (m := 80) k1 (by omega) mlow (by omega) sz (by decide)
    have shw : Shows (.list [lrnD k zs, lrnD k zs]) := (fit_lst (ds := [lrnD k zs, lrnD k zs]) fun x hx => by
      simp only [List.mem_cons, List.not_mem_nil, or_false] at hx
      rcases hx with rfl | rfl <;> exact fit).shows (show _ ≤ 1000000 from by show 2 * (5 * (80 * 84 + 15) + 3 + 2) + 3 ≤ 1000000; decide) (by decide)
    have jd := lrn_judged (sg := sg) (k := k) (zs := zs) k1 mlet
    have wd := lrn_wide (k := k) (zs := zs) k1 (by omega) (by omega) (by omega)
    have lp : (pcs k zs).length ≤ 80 := Nat.le_trans (pcs_len k1 zs) sz
    -- what is due
    refine ⟨_, rfl, _, rfl, k, D, zs, rfl, m1, k1, by omega, by omega, by omega, fun vd H6 s6 hvd => ?_⟩
    have hvd6 := dt_dg hvd hD5
    have hD6 := hD5.same s6
    have m16 := s6 _ _ m1
    -- what is told
    refine ⟨_, rfl, _, rfl, k, D, zs, rfl, m16, k1, by omega, hz8, m100, fun w1 H7 s7 hw1 => ?_⟩
    have hw17 := dt_dg hw1 hD6
    have hD7 := hD6.same s7
    refine ⟨_, rfl, _, rfl, _, rfl, d, g, D, zs, c + 145, rfl, s7 _ _ m16, nD.1, nD.2, by omega, hD7, by omega, fun ys pt H8 py np1 np2 ept hD8 k8 => ?_⟩
    have ym : ∀ x, x ∈ ys ↔ x ∈ zs := fun x => py.mem_iff
    refine ⟨k, pt, ys, rfl, ept, k1, by omega, by rw [py.length_eq]; exact hz8, fun z hz => m100 z ((ym z).mp hz), fun w2 H9 s9 hw2 => ⟨(by show 2 ≤ sizeLine; decide), fun pl hpl => ?_⟩⟩
    rw [lrn_congr ym] at hw2
    have s10 := same_new hpl (.lst [w1, w2])
    have k69 : Keeps d g H6 (upd H9 pl (.lst [w1, w2])) := (((Keeps.of s7).trans k8).trans (Keeps.of s9)).trans (Keeps.of s10)
    have hvd10 := dt_keep hvd6 k69 fun _ h => h
    have hw110 := dt_keep hw17 ((k8.trans (Keeps.of s9)).trans (Keeps.of s10)) fun _ h => h
    have hw210 := Vd.dt_same hw2 s10
    have m110 := k69 _ _ nD.1 nD.2 m16
    have epl : upd H9 pl (.lst [w1, w2]) pl = some (.lst [w1, w2]) := upd_same
    have hD10 := (hD8.same s9).same s10
    generalize upd H9 pl (.lst [w1, w2]) = H10 at hvd10 hw110 hw210 m110 epl hD10 ⊢
    clear k69 s10 hw2 hw17 hw1 hvd6 hvd s6 s7 s9 k8 hpl hD5 hD6 hD7 hD8 ept m16 m1
    have lst1 : Dt H10 (fun _ => True) (.ref pl) (.list [lrnD k zs, lrnD k zs]) := .lst epl trivial (.cons (dt_any' hw110) (.cons (dt_any' hw210) .nil))
    refine ⟨_, rfl, _, _, rfl, lst1, shw, ?_⟩
    generalize hkept : (PyData.list [lrnD k zs, lrnD k zs]).shown = kept
    refine ⟨_, rfl, _, rfl, (by show 2 ≤ sizeLine; decide), fun pq hpq => ?_⟩
    have s11 := same_new hpq (.lst [vd, vd])
    have hvd11 := Vd.dt_same hvd10 s11
    refine ⟨_, _, rfl, (.lst upd_same trivial (.cons (dt_any' hvd11) (.cons (dt_any' hvd11) .nil)) : Dt _ (fun _ => True) (.ref pq) (.list [lrnD k zs, lrnD k zs])), shw, ?_⟩
    rw [hkept]
    refine ⟨rfl, _, rfl, if_fl' (by simp) ?_⟩
    have hw111 := Vd.dt_same hw110 s11
    have epl1 := s11 _ _ epl
    have m111 := s11 _ _ m110
    have hD11 := hD10.same s11
    generalize upd H10 pq (.lst [vd, vd]) = H11 at hvd11 hw111 epl1 m111 hD11 ⊢
    refine ⟨_, rfl, _, rfl, pl, _, 0, _, rfl, rfl, SqL.of epl1, rfl, sg, w1, _, _, rfl, hw111, wd, fun H12 s12 => ⟨_, _, rfl, rfl, _, rfl, ?_⟩⟩
    rw [jd]
    refine if_fl' rfl ?_
    -- all of them are accepted
    have epl2 := s12 _ _ epl1
    have m112 := s12 _ _ m111
    have hw112 := Vd.dt_same hw111 s12
    refine ⟨_, rfl, D, rfl, ⟨_, SqL.of m112⟩, fun Da hDa => ?_⟩
    refine walk_gen (walk_list (xs := (zs.map mkS).map V.str)) (fun j H' => H' Da = some (.lst []) ∧ Same H12 H') ⟨upd_same, same_new hDa _⟩ (fun j H' _ ⟨_, s⟩ => SqL.of (s _ _ m112)) ?_ ?_
    · rintro j x Ha Hb hj ⟨n1, n2⟩ ⟨rfl, hx⟩
      obtain ⟨z, hz, rfl⟩ := str_at hx
      have hzm := List.mem_of_getElem? hz
      refine ⟨rfl, _, rfl, pl, _, 0, _, rfl, rfl, SqL.of (n2 _ _ epl2), rfl, _, rfl, w1, k, _, _, _, _, z, _, rfl, Vd.dt_same hw112 n2, k1, by omega, by have := (m3 z hzm).1; omega, by omega, fun Hc sc => ⟨_, _, rfl, rfl, _, rfl, ?_⟩⟩
      rw [acc_all hzm]
      exact if_fl' rfl ⟨sc _ _ n1, n2.trans sc⟩
    rintro H13 ⟨n1, s13⟩
    refine ⟨(by show 0 ≤ sizeLine; decide), fun pe hpe => ⟨Da, pe, [], rfl, rfl, SqL.of (same_new hpe _ _ _ n1), SqL.of upd_same, _, rfl, if_fl' rfl ?_⟩⟩
    have s14 := (s12.trans s13).trans (same_new hpe (.lst []))
    have hvd14 := Vd.dt_same hvd11 s14
    have m114 := s14 _ _ m111
    have hD14 := hD11.same s14
    generalize upd H13 pe (.lst []) = H14 at hvd14 m114 hD14 ⊢
    clear s14 s13 s12 n1 hpe hDa m112 epl2 hw112 hD11 hD10 m110 m111 hw110 hw111 hw210 hvd10 hvd11 epl epl1 s11 hpq lst1
    -- none with an entry less
    refine ⟨_, rfl, vd, _, k, zs, rfl, hvd14, k1, by omega, by omega, by omega, fun pb us H15 s15 eb bad => ⟨pb, rfl, ⟨_, SqL.of eb⟩, fun Db hDb => ?_⟩⟩
    have m115 := s15 _ _ m114
    refine walk_gen (walk_list (xs := us)) (fun j H' => H' Db = some (.lst []) ∧ Same H15 H') ⟨upd_same, same_new hDb _⟩ (fun j H' _ ⟨_, s⟩ => SqL.of (s _ _ eb)) ?_ ?_
    · rintro j x Ha Hb hj ⟨n1, n2⟩ ⟨rfl, hx⟩
      obtain ⟨S', F', L', P', du, lP, z0, hz0, az0⟩ := bad x (List.mem_of_getElem? hx)
      have duA := Vd.dt_same du n2
      refine ⟨rfl, _, rfl, D, rfl, ⟨_, SqL.of (n2 _ _ m115)⟩, fun Di hDi => ?_⟩
      refine walk_gen (walk_list (xs := (zs.map mkS).map V.str)) (fun j H' => ∃ l, H' Di = some (.lst l) ∧ (l = [] → ∀ z ∈ zs.take j, acc k S' F' L' P' z = true) ∧ l.length ≤ j ∧ Same Hb H') ⟨[], upd_same, (fun _ z h => by simp at h), Nat.le_refl _, same_new hDi _⟩ (fun j H' _ ⟨_, _, _, _, s⟩ => SqL.of (s _ _ (n2 _ _ m115))) ?_ ?_
      · rintro i2 x2 Hc Hd hi2 ⟨l, q1, q2, q3, q4⟩ ⟨rfl, hx2⟩
        obtain ⟨z, hz, rfl⟩ := str_at hx2
        have hzm := List.mem_of_getElem? hz
        refine ⟨rfl, _, rfl, _, rfl, x, k, S', F', L', P', z, _, rfl, Vd.dt_same duA q4, k1, by omega, by have := (m3 z hzm).1; omega, by omega, fun He se => ⟨_, rfl, ?_⟩⟩
        by_cases ca : acc k S' F' L' P' z = true
        · rw [ca]
          refine if_fl' rfl ⟨l, se _ _ q1, fun e y hy => ?_, by omega, q4.trans se⟩
          rw [List.take_add_one, hz, List.mem_append] at hy
          rcases hy with h | h
          · exact q2 e y h
          · have : y = z := by simpa using h
            rw [this]
            exact ca
        · rw [Bool.eq_false_iff.mpr ca]
          refine ite2 (fun _ => ?_) (fun x => absurd rfl x)
          refine ⟨_, rfl, l, se _ _ q1, by rw [sizeLine_eq]; have : zs.length ≤ 8 := hz8; rw [List.length_map, List.length_map] at hi2; omega, l ++ [.str (mkS z)], upd_same, fun e => absurd e (by simp), by rw [List.length_append]; show _ + 1 ≤ _; omega, fun b o e => ?_⟩
          rw [upd_ne (ne_of_none e hDi)]
          exact se _ _ (q4 _ _ e)
      rintro Hc ⟨l, q1, q2, q3, q4⟩
      rw [List.length_map, List.length_map, List.take_length] at q2
      have hl : l.isEmpty = false := by
        cases l with
        | nil =>
          have := q2 rfl z0 hz0
          rw [az0] at this
          exact absurd this (by decide)
        | cons _ _ => rfl
      refine ⟨(by show 0 ≤ sizeLine; decide), fun pe hpe => ⟨Di, pe, l, rfl, rfl, SqL.of (same_new hpe _ _ _ q1), SqL.of upd_same, _, rfl, if_fl' hl ?_⟩⟩
      have sE := q4.trans (same_new hpe (.lst []))
      exact ⟨sE _ _ n1, n2.trans sE⟩
    rintro H16 ⟨n1, s16⟩
    refine ⟨(by show 0 ≤ sizeLine; decide), fun pe hpe => ⟨Db, pe, [], rfl, rfl, SqL.of (same_new hpe _ _ _ n1), SqL.of upd_same, _, rfl, if_fl' rfl ?_⟩⟩
    have s17 := (s15.trans s16).trans (same_new hpe (.lst []))
    have m117 := s17 _ _ m114
    have hD17 := hD14.same s17
    generalize upd H16 pe (.lst []) = H17 at m117 hD17 ⊢
    clear s17 s16 s15 n1 hpe hDb m115 bad eb hvd14 hD14 m114
    -- with a word more
    have hl7 : (zs.take 7).length ≤ 7 := by rw [List.length_take]; omega
    have t7 : ∀ z ∈ zs.take 7, z.length ≤ 10 ∧ ∀ x ∈ z, x ∈ sg := fun z hz => m3 z (List.mem_of_mem_take hz)
    have e7 : cutV ((zs.map mkS).map V.str) none (some 7) = ((zs.take 7).map mkS).map V.str := by
      rw [show ((7 : Int)) = ((7 : Nat) : Int) from rfl, cutV_to, List.map_take, List.map_take]
    refine ⟨_, rfl, _, rfl, _, rfl, D, _, rfl, SqL.of m117, fun ps hps => ?_⟩
    rw [e7]
    have s18 := same_new hps (.lst (((zs.take 7).map mkS).map V.str))
    have nps := hD17.dn hps
    have eps : upd H17 ps (.lst (((zs.take 7).map mkS).map V.str)) ps = some (.lst (((zs.take 7).map mkS).map V.str)) := upd_same
    have hD18 := hD17.same s18
    have m118 := s18 _ _ m117
    generalize upd H17 ps (.lst (((zs.take 7).map mkS).map V.str)) = H18 at s18 eps hD18 m118 ⊢
    refine ⟨_, rfl, _, rfl, d, g, sg, c + 165, rfl, gs, hD18, by omega, fun z H19 z1 z2 hD19 k19 => ⟨(by show 1 ≤ sizeLine; decide), fun pw hpw => ?_⟩⟩
    have s20 := same_new hpw (.lst [.str (mkS z)])
    have eps20 := s20 _ _ (k19 _ _ nps.1 nps.2 eps)
    have m120 := s20 _ _ (k19 _ _ nD.1 nD.2 m118)
    have hD20 := hD19.same s20
    refine ⟨ps, pw, _, _, rfl, rfl, eps20, upd_same, by rw [List.length_map, List.length_map, sizeLine_eq]; show _ + 1 ≤ _; omega, fun pc hpc => ?_⟩
    have s21 := same_new hpc (.lst (((zs.take 7).map mkS).map V.str ++ [.str (mkS z)]))
    have epc : upd (upd H19 pw (.lst [.str (mkS z)])) pc (.lst (((zs.take 7).map mkS).map V.str ++ [.str (mkS z)])) pc = some (.lst (((zs.take 7 ++ [z]).map mkS).map V.str)) := by rw [upd_same, strs_snoc]
    have m121 := s21 _ _ m120
    have hD21 := hD20.same s21
    generalize upd (upd H19 pw (.lst [.str (mkS z)])) pc (.lst (((zs.take 7).map mkS).map V.str ++ [.str (mkS z)])) = H21 at epc m121 hD21 ⊢
    have mm : ∀ y ∈ zs.take 7 ++ [z], y.length ≤ 10 ∧ ∀ x ∈ y, x ∈ sg := fun y hy => by
      rcases List.mem_append.mp hy with h | h
      · exact t7 y h
      · rw [List.mem_singleton.mp h]
        exact ⟨z1, z2⟩
    have lm : (zs.take 7 ++ [z]).length ≤ 8 := by rw [List.length_append]; show _ + 1 ≤ 8; omega
    refine ⟨k, pc, zs.take 7 ++ [z], rfl, epc, k1, by omega, lm, fun y hy => Nat.le_trans (mm y hy).1 (by decide), fun wm H22 s22 hwm => ?_⟩
    refine ⟨_, rfl, _, rfl, _, rfl, D, _, rfl, SqL.of (s22 _ _ m121), fun ps2 hps2 => ?_⟩
    rw [e7]
    have s23 := same_new hps2 (.lst (((zs.take 7).map mkS).map V.str))
    refine ⟨k, ps2, zs.take 7, rfl, upd_same, k1, by omega, by omega, by have := small_ok t7 (by omega); omega, fun wl H24 s24 hwl => ⟨(by show 2 ≤ sizeLine; decide), fun tp htp => ?_⟩⟩
    have s25 := same_new htp (.tup [wm, wl])
    have hwm25 := Vd.dt_same (Vd.dt_same (Vd.dt_same hwm s23) s24) s25
    have hwl25 := Vd.dt_same hwl s25
    have hD25 := (((hD21.same s22).same s23).same s24).same s25
    refine ⟨tp, _, rfl, SqT.of upd_same, rfl, _, _, rfl, _, _, rfl, rfl, ?_⟩
    generalize upd H24 tp (.tup [wm, wl]) = H25 at hwm25 hwl25 hD25 ⊢
    clear s25 s24 s23 s22 hwm hwl htp hps2 hD21 hD20 hD19 hD18 k19 s21 s20 s18 epc eps eps20 m121 m120 m118 m117 hpc hpw hps
    obtain ⟨am, xm, rfl, eam, _, dam⟩ := dt_tup (show Dt H25 _ wm (.tuple (dsOf k (zs.take 7 ++ [z]))) from hwm25)
    obtain ⟨al, xl, rfl, eal, _, dal⟩ := dt_tup (show Dt H25 _ wl (.tuple (dsOf k (zs.take 7))) from hwl25)
    have ldm : xm.length = 5 := dtA_len dam
    have ldl : xl.length = 5 := dtA_len dal
    refine ⟨1, 5, rfl, ⟨by decide, by decide, by decide, by decide⟩, fun Do hDo => ?_⟩
    refine walk_gen (walk_range (lo := 1) (n := ((5 : Int) - 1).toNat)) (fun j H' => H' Do = some (.lst []) ∧ Same H25 H') ⟨upd_same, same_new hDo _⟩ (fun _ _ _ _ => trivial) ?_ ?_
    · rintro j x Ha Hb hj ⟨n1, n2⟩ ⟨rfl, ex⟩
      obtain rfl : x = V.int ((1 + j : Nat) : Int) := ex.trans (show V.int ((1 : Int) + (j : Nat)) = V.int ((1 + j : Nat) : Int) from congrArg V.int (by omega))
      have hj4 : j < 4 := hj
      have hml := ds_at (k := k) (zs := zs.take 7) hj4
      have hmm := ds_at (k := k) (zs := zs.take 7 ++ [z]) hj4
      have hxl : 1 + j < xl.length := by rw [ldl]; omega
      have hxm : 1 + j < xm.length := by rw [ldm]; omega
      obtain ⟨dd, hdd, dx⟩ := dtA_at dal (List.getElem?_eq_getElem hxl)
      rw [hml] at hdd
      obtain rfl := Option.some.inj hdd
      obtain ⟨bl, ebl, _, hbl⟩ := dt_words dx
      have hxl' : xl[1 + j]? = some (.ref bl) := by rw [List.getElem?_eq_getElem hxl, ebl]
      obtain ⟨dd, hdd, dx⟩ := dtA_at dam (List.getElem?_eq_getElem hxm)
      rw [hmm] at hdd
      obtain rfl := Option.some.inj hdd
      obtain ⟨bm, ebm, _, hbm⟩ := dt_words dx
      have hxm' : xm[1 + j]? = some (.ref bm) := by rw [List.getElem?_eq_getElem hxm, ebm]
      refine ⟨rfl, _, rfl, _, rfl, al, _, _, .ref bl, rfl, rfl, SqT.of (n2 _ _ eal), atI_nat hxl', bl, rfl, ⟨_, SqT.of (n2 _ _ hbl)⟩, fun Di hDi => ?_⟩
      refine walk_gen (walk_tup (xs := ((wAt k (zs.take 7) j).map mkS).map V.str)) (fun _ H' => H' Di = some (.lst []) ∧ Same Hb H') ⟨upd_same, same_new hDi _⟩ (fun _ H' _ ⟨_, s⟩ => SqT.of (s _ _ (n2 _ _ hbl))) ?_ ?_
      · rintro i2 x2 Hc Hd hi2 ⟨q1, q2⟩ ⟨rfl, hx2⟩
        obtain ⟨y, hy, rfl⟩ := str_at hx2
        have hym : y ∈ wAt k (zs.take 7 ++ [z]) j := wAt_mono (fun x hx => List.mem_append_left _ hx) (List.mem_of_getElem? hy)
        have s2c := n2.trans q2
        refine ⟨rfl, _, rfl, _, rfl, _, rfl, am, _, _, .ref bm, rfl, rfl, SqT.of (s2c _ _ eam), atI_nat hxm', bm, _, rfl, .inr (SqT.of (s2c _ _ hbm)), rfl, flat_words _, _, rfl, ?_⟩
        rw [notIn_word, decide_eq_true hym]
        exact if_fl' rfl ⟨q1, q2⟩
      rintro Hc ⟨q1, q2⟩
      refine ⟨(by show 0 ≤ sizeLine; decide), fun pe hpe => ⟨Di, pe, [], rfl, rfl, SqL.of (same_new hpe _ _ _ q1), SqL.of upd_same, _, rfl, if_fl' rfl ?_⟩⟩
      have sE := q2.trans (same_new hpe (.lst []))
      exact ⟨sE _ _ n1, n2.trans sE⟩
    rintro H26 ⟨n1, s26⟩
    refine ⟨(by show 0 ≤ sizeLine; decide), fun pe hpe => ⟨Do, pe, [], rfl, rfl, SqL.of (same_new hpe _ _ _ n1), SqL.of upd_same, _, rfl, if_fl' rfl ?_⟩⟩
    exact ⟨_, _, _, _, _, _, _, _, rfl, ((hD25.same s26).same (same_new hpe (.lst []))).le (by omega)⟩
  · rintro σ H2 ⟨v2, v3, v4, v5, v6, v7, v8, v9, rfl, hD2⟩
    refine ⟨2, [], rfl, by decide, by decide, by decide, by decide, fun u1 Ha sa h1 => ?_⟩
    refine ⟨2, [[97, 98, 97, 98]], by rw [str_abab]; rfl, by decide, by decide, by decide, by decide, fun u2 Hb sb h2 => ?_⟩
    refine ⟨1, [[]], by rw [str0]; rfl, by decide, by decide, by decide, by decide, fun u3 Hc sc h3 => ⟨(by show 3 ≤ sizeLine; decide), fun pl hpl => ?_⟩⟩
    have sd := same_new hpl (.lst [u1, u2, u3])
    have g1 := dt_any' (Vd.dt_same (Vd.dt_same (Vd.dt_same h1 sb) sc) sd)
    have g2 := dt_any' (Vd.dt_same (Vd.dt_same h2 sc) sd)
    have g3 := dt_any' (Vd.dt_same h3 sd)
    have hDd := (((hD2.same sa).same sb).same sc).same sd
    have lst1 : Dt (upd Hc pl (.lst [u1, u2, u3])) (fun _ => True) (.ref pl) (.list [lrnD 2 [], lrnD 2 [[97, 98, 97, 98]], lrnD 1 [[]]]) := .lst upd_same trivial (.cons g1 (.cons g2 (.cons g3 .nil)))
    have shw : Shows (.list [lrnD 2 [], lrnD 2 [[97, 98, 97, 98]], lrnD 1 [[]]]) := (fit_lst (b := 5 * (10 * 84 + 15) + 3) (e := 2) (ds := [lrnD 2 [], lrnD 2 [[97, 98, 97, 98]], lrnD 1 [[]]]) fun x hx => by
      simp only [List.mem_cons, List.not_mem_nil, or_false] at hx
      rcases hx with rfl | rfl | rfl
      · exact lrn_fit (m := 10) (by decide) (by decide) (by decide) (by decide) (by decide) (by decide)
      · exact lrn_fit (m := 10) (by decide) (by decide) (by decide) (by decide) (by decide) (by decide)
      · exact lrn_fit (m := 10) (by decide) (by decide) (by decide) (by decide) (by decide) (by decide)).shows (by decide) (by decide)
    rw [lrn_a, lrn_b, lrn_c] at lst1 shw
    generalize upd Hc pl (.lst [u1, u2, u3]) = Hd at lst1 hDd ⊢
    clear g1 g2 g3 sd
    refine ⟨(by show 0 ≤ sizeLine; decide), fun e1 he1 => ⟨(by show 0 ≤ sizeLine; decide), fun e2 he2 => ⟨(by show 0 ≤ sizeLine; decide), fun e3 he3 => ⟨(by show 0 ≤ sizeLine; decide), fun e4 he4 => ⟨(by show 5 ≤ sizeLine; decide), fun j1 hj1 => ?_⟩⟩⟩⟩⟩
    obtain ⟨HJ, eHJ, sJ, hJ⟩ := judge_lit (k := (2 : Int)) he1 he2 he3 he4 hj1 2 [] [] [] [] rfl rfl rfl rfl rfl
    rw [← eHJ]
    clear eHJ
    refine ⟨(by show 0 ≤ sizeLine; decide), fun e1 he1 => ⟨(by show 1 ≤ sizeLine; decide), fun e2 he2 => ⟨(by show 1 ≤ sizeLine; decide), fun e3 he3 => ⟨(by show 2 ≤ sizeLine; decide), fun e4 he4 => ⟨(by show 5 ≤ sizeLine; decide), fun j2 hj2 => ?_⟩⟩⟩⟩⟩
    obtain ⟨HK, eHK, sK, hK⟩ := judge_lit (k := (2 : Int)) he1 he2 he3 he4 hj2 2 [] [[97]] [[98]] [[97, 98], [98, 97]] rfl rfl (by decide +kernel) (by decide +kernel) (by decide +kernel)
    rw [← eHK]
    clear eHK
    refine ⟨(by show 1 ≤ sizeLine; decide), fun e1 he1 => ⟨(by show 0 ≤ sizeLine; decide), fun e2 he2 => ⟨(by show 0 ≤ sizeLine; decide), fun e3 he3 => ⟨(by show 0 ≤ sizeLine; decide), fun e4 he4 => ⟨(by show 5 ≤ sizeLine; decide), fun j3 hj3 => ?_⟩⟩⟩⟩⟩
    obtain ⟨HM, eHM, sM, hM⟩ := judge_lit (k := (1 : Int)) he1 he2 he3 he4 hj3 1 [[]] [] [] [] rfl (by decide +kernel) rfl rfl rfl
    rw [← eHM]
    clear eHM
    refine ⟨(by show 3 ≤ sizeLine; decide), fun pm hpm => ?_⟩
    have sN := same_new hpm (.lst [.ref j1, .ref j2, .ref j3])
    have lst2 : Dt (upd HM pm (.lst [.ref j1, .ref j2, .ref j3])) (fun _ => True) (.ref pm) (.list [judgeD 2 [] [] [] [], judgeD 2 [] [[97]] [[98]] [[97, 98], [98, 97]], judgeD 1 [[]] [] [] []]) :=
      .lst upd_same trivial (.cons (Vd.dt_same (Vd.dt_same (Vd.dt_same hJ sK) sM) sN) (.cons (Vd.dt_same (Vd.dt_same hK sM) sN) (.cons (Vd.dt_same hM sN) .nil)))
    have sAll := ((sJ.trans sK).trans sM).trans sN
    have lst3 := Vd.dt_same lst1 sAll
    have hDe := hDd.same sAll
    generalize upd HM pm (.lst [.ref j1, .ref j2, .ref j3]) = HN at lst2 lst3 hDe ⊢
    refine ⟨_, rfl, _, _, rfl, lst3, shw, ?_⟩
    generalize hkept : (PyData.list [judgeD 2 [] [] [] [], judgeD 2 [] [[97]] [[98]] [[97, 98], [98, 97]], judgeD 1 [[]] [] [] []]).shown = kept
    refine ⟨_, rfl, _, _, rfl, lst2, shw, ?_⟩
    rw [hkept]
    refine ⟨rfl, _, rfl, ?_⟩
    refine ite2 (fun _ => ?_) (fun x => absurd (decide_eq_true rfl) x)
    exact ⟨_, rfl, d, g, 200 * 6, rfl, hDe, (by unfold most; decide), q⟩
end
end Vf

set_option Elab.async false
set_option linter.all false
set_option maxRecDepth 100000
set_option maxHeartbeats 4000000
namespace Vf
open PySem PySem.Spec PyProof.Rows L2 L2.Vx
section
variable {P : Program} {w : World} {K : PySem.W.Frag} {mg : Str → Option Value} {base : Heap}
theorem all_mk {l : PySem.W.OpenLaw} {h : Heap} {fa : Addr} (X : K.In h) (G : h.Ns mainGlobals mg) (hfa : mg "law" = some (.ref fa))
    {fH : Addr} {ocH : Value} {odH anH : Option Addr} {slH : Array (Option Value)} {kVH dcH pmH cdH ctH : Value} {fD : Addr} {ocD : Value} {odD anD : Option Addr} {slD : Array (Option Value)} {kVD dcD pmD cdD ctD : Value} {fF : Addr} {ocF : Value} {odF anF : Option Addr} {slF : Array (Option Value)} {kVF dcF pmF cdF ctF : Value} {fA : Addr} {ocA : Value} {odA anA : Option Addr} {slA : Array (Option Value)} {kVA dcA pmA cdA ctA : Value} {fC : Addr} {ocC : Value} {odC anC : Option Addr} {slC : Array (Option Value)} {kVC dcC pmC cdC ctC : Value} {fM : Addr} {ocM : Value} {odM anM : Option Addr} {slM : Array (Option Value)} {kVM dcM pmM cdM ctM : Value} {fE : Addr} {ocE : Value} {odE anE : Option Addr} {slE : Array (Option Value)} {kVE dcE pmE cdE ctE : Value} {fV : Addr} {ocV : Value} {odV anV : Option Addr} {slV : Array (Option Value)} {kVV dcV pmV cdV ctV : Value} {fB : Addr} {ocB : Value} {odB anB : Option Addr} {slB : Array (Option Value)} {kVB dcB pmB cdB ctB : Value} {fI : Addr} {ocI : Value} {odI anI : Option Addr} {slI : Array (Option Value)} {kVI dcI pmI cdI ctI : Value} {fU : Addr} {ocU : Value} {odU anU : Option Addr} {slU : Array (Option Value)} {kVU dcU pmU cdU ctU : Value} {fJ : Addr} {ocJ : Value} {odJ anJ : Option Addr} {slJ : Array (Option Value)} {kVJ dcJ pmJ cdJ ctJ : Value} {fY : Addr} {ocY : Value} {odY anY : Option Addr} {slY : Array (Option Value)} {kVY dcY pmY cdY ctY : Value} {fL : Addr} {ocL : Value} {odL anL : Option Addr} {slL : Array (Option Value)} {kVL dcL pmL cdL ctL : Value} {fK : Addr} {ocK : Value} {odK anK : Option Addr} {slK : Array (Option Value)} {kVK dcK pmK cdK ctK : Value} {fW : Addr} {ocW : Value} {odW anW : Option Addr} {slW : Array (Option Value)} {kVW dcW pmW cdW ctW : Value} {fP : Addr} {ocP : Value} {odP anP : Option Addr} {slP : Array (Option Value)} {kVP dcP pmP cdP ctP : Value} {fZ : Addr} {ocZ : Value} {odZ anZ : Option Addr} {slZ : Array (Option Value)} {kVZ dcZ pmZ cdZ ctZ : Value} {fG : Addr} {ocG : Value} {odG anG : Option Addr} {slG : Array (Option Value)} {kVG dcG pmG cdG ctG : Value} {fQ : Addr} {ocQ : Value} {odQ anQ : Option Addr} {slQ : Array (Option Value)} {kVQ dcQ pmQ cdQ ctQ : Value} {fN : Addr} {ocN : Value} {odN anN : Option Addr} {slN : Array (Option Value)} {kVN dcN pmN cdN ctN : Value} {fT : Addr} {ocT : Value} {odT anT : Option Addr} {slT : Array (Option Value)} {kVT dcT pmT cdT ctT : Value} {fS : Addr} {ocS : Value} {odS anS : Option Addr} {slS : Array (Option Value)} {kVS dcS pmS cdS ctS : Value} {fO : Addr} {ocO : Value} {odO anO : Option Addr} {slO : Array (Option Value)} {kVO dcO pmO cdO ctO : Value} {fX : Addr} {ocX : Value} {odX anX : Option Addr} {slX : Array (Option Value)} {kVX dcX pmX cdX ctX : Value}
    (aH : PySem.W.nsIn K mainGlobals "is_whole" = some (some (.ref fH)))
    (lH : K.lookup fH = some ⟨ocH, odH, .func (PySem.W.fnOf "is_whole" "is_whole" (defArgs sWhole) (defBody sWhole) (defScope sWhole) .none kVH dcH pmH anH cdH ctH), slH⟩)
    (cH : PySem.W.codeIn K cdH "is_whole" = true)
    (kH : PySem.W.keepIn K (.ref fH) = true)
    (aD : PySem.W.nsIn K mainGlobals "is_ascending" = some (some (.ref fD)))
    (lD : K.lookup fD = some ⟨ocD, odD, .func (PySem.W.fnOf "is_ascending" "is_ascending" (defArgs sAsc) (defBody sAsc) (defScope sAsc) .none kVD dcD pmD anD cdD ctD), slD⟩)
    (cD : PySem.W.codeIn K cdD "is_ascending" = true)
    (kD : PySem.W.keepIn K (.ref fD) = true)
    (aF : PySem.W.nsIn K mainGlobals "is_text" = some (some (.ref fF)))
    (lF : K.lookup fF = some ⟨ocF, odF, .func (PySem.W.fnOf "is_text" "is_text" (defArgs sText) (defBody sText) (defScope sText) .none kVF dcF pmF anF cdF ctF), slF⟩)
    (cF : PySem.W.codeIn K cdF "is_text" = true)
    (kF : PySem.W.keepIn K (.ref fF) = true)
    (aA : PySem.W.nsIn K mainGlobals "in_pairs" = some (some (.ref fA)))
    (lA : K.lookup fA = some ⟨ocA, odA, .func (PySem.W.fnOf "in_pairs" "in_pairs" (defArgs sPairs) (defBody sPairs) (defScope sPairs) .none kVA dcA pmA anA cdA ctA), slA⟩)
    (cA : PySem.W.codeIn K cdA "in_pairs" = true)
    (kA : PySem.W.keepIn K (.ref fA) = true)
    (aC : PySem.W.nsIn K mainGlobals "pieces_of" = some (some (.ref fC)))
    (lC : K.lookup fC = some ⟨ocC, odC, .func (PySem.W.fnOf "pieces_of" "pieces_of" (defArgs sPieces) (defBody sPieces) (defScope sPieces) .none kVC dcC pmC anC cdC ctC), slC⟩)
    (cC : PySem.W.codeIn K cdC "pieces_of" = true)
    (kC : PySem.W.keepIn K (.ref fC) = true)
    (aM : PySem.W.nsIn K mainGlobals "summed" = some (some (.ref fM)))
    (lM : K.lookup fM = some ⟨ocM, odM, .func (PySem.W.fnOf "summed" "summed" (defArgs sSummed) (defBody sSummed) (defScope sSummed) .none kVM dcM pmM anM cdM ctM), slM⟩)
    (cM : PySem.W.codeIn K cdM "summed" = true)
    (kM : PySem.W.keepIn K (.ref fM) = true)
    (aE : PySem.W.nsIn K mainGlobals "ended_with" = some (some (.ref fE)))
    (lE : K.lookup fE = some ⟨ocE, odE, .func (PySem.W.fnOf "ended_with" "ended_with" (defArgs sEnded) (defBody sEnded) (defScope sEnded) .none kVE dcE pmE anE cdE ctE), slE⟩)
    (cE : PySem.W.codeIn K cdE "ended_with" = true)
    (kE : PySem.W.keepIn K (.ref fE) = true)
    (aV : PySem.W.nsIn K mainGlobals "view_of" = some (some (.ref fV)))
    (lV : K.lookup fV = some ⟨ocV, odV, .func (PySem.W.fnOf "view_of" "view_of" (defArgs sView) (defBody sView) (defScope sView) .none kVV dcV pmV anV cdV ctV), slV⟩)
    (cV : PySem.W.codeIn K cdV "view_of" = true)
    (kV : PySem.W.keepIn K (.ref fV) = true)
    (aB : PySem.W.nsIn K mainGlobals "is_word" = some (some (.ref fB)))
    (lB : K.lookup fB = some ⟨ocB, odB, .func (PySem.W.fnOf "is_word" "is_word" (defArgs sWordQ) (defBody sWordQ) (defScope sWordQ) .none kVB dcB pmB anB cdB ctB), slB⟩)
    (cB : PySem.W.codeIn K cdB "is_word" = true)
    (kB : PySem.W.keepIn K (.ref fB) = true)
    (aI : PySem.W.nsIn K mainGlobals "is_words" = some (some (.ref fI)))
    (lI : K.lookup fI = some ⟨ocI, odI, .func (PySem.W.fnOf "is_words" "is_words" (defArgs sWordsQ) (defBody sWordsQ) (defScope sWordsQ) .none kVI dcI pmI anI cdI ctI), slI⟩)
    (cI : PySem.W.codeIn K cdI "is_words" = true)
    (kI : PySem.W.keepIn K (.ref fI) = true)
    (aU : PySem.W.nsIn K mainGlobals "is_shorter_ones" = some (some (.ref fU)))
    (lU : K.lookup fU = some ⟨ocU, odU, .func (PySem.W.fnOf "is_shorter_ones" "is_shorter_ones" (defArgs sShort) (defBody sShort) (defScope sShort) .none kVU dcU pmU anU cdU ctU), slU⟩)
    (cU : PySem.W.codeIn K cdU "is_shorter_ones" = true)
    (kU : PySem.W.keepIn K (.ref fU) = true)
    (aJ : PySem.W.nsIn K mainGlobals "is_judge" = some (some (.ref fJ)))
    (lJ : K.lookup fJ = some ⟨ocJ, odJ, .func (PySem.W.fnOf "is_judge" "is_judge" (defArgs sJudge) (defBody sJudge) (defScope sJudge) .none kVJ dcJ pmJ anJ cdJ ctJ), slJ⟩)
    (cJ : PySem.W.codeIn K cdJ "is_judge" = true)
    (kJ : PySem.W.keepIn K (.ref fJ) = true)
    (aY : PySem.W.nsIn K mainGlobals "accepts" = some (some (.ref fY)))
    (lY : K.lookup fY = some ⟨ocY, odY, .func (PySem.W.fnOf "accepts" "accepts" (defArgs sAcc) (defBody sAcc) (defScope sAcc) .none kVY dcY pmY anY cdY ctY), slY⟩)
    (cY : PySem.W.codeIn K cdY "accepts" = true)
    (kY : PySem.W.keepIn K (.ref fY) = true)
    (aL : PySem.W.nsIn K mainGlobals "learned" = some (some (.ref fL)))
    (lL : K.lookup fL = some ⟨ocL, odL, .func (PySem.W.fnOf "learned" "learned" (defArgs sLearned) (defBody sLearned) (defScope sLearned) .none kVL dcL pmL anL cdL ctL), slL⟩)
    (cL : PySem.W.codeIn K cdL "learned" = true)
    (kL : PySem.W.keepIn K (.ref fL) = true)
    (aK : PySem.W.nsIn K mainGlobals "_law_deck" = some (some (.ref fK)))
    (lK : K.lookup fK = some ⟨ocK, odK, .func (PySem.W.fnOf "_law_deck" "_law_deck" (defArgs sDeck) (defBody sDeck) (defScope sDeck) .none kVK dcK pmK anK cdK ctK), slK⟩)
    (cK : PySem.W.codeIn K cdK "_law_deck" = true)
    (kK : PySem.W.keepIn K (.ref fK) = true)
    (aW : PySem.W.nsIn K mainGlobals "_law_draw" = some (some (.ref fW)))
    (lW : K.lookup fW = some ⟨ocW, odW, .func (PySem.W.fnOf "_law_draw" "_law_draw" (defArgs sDraw) (defBody sDraw) (defScope sDraw) .none kVW dcW pmW anW cdW ctW), slW⟩)
    (cW : PySem.W.codeIn K cdW "_law_draw" = true)
    (kW : PySem.W.keepIn K (.ref fW) = true)
    (aP : PySem.W.nsIn K mainGlobals "_law_pick" = some (some (.ref fP)))
    (lP : K.lookup fP = some ⟨ocP, odP, .func (PySem.W.fnOf "_law_pick" "_law_pick" (defArgs sPick) (defBody sPick) (defScope sPick) .none kVP dcP pmP anP cdP ctP), slP⟩)
    (cP : PySem.W.codeIn K cdP "_law_pick" = true)
    (kP : PySem.W.keepIn K (.ref fP) = true)
    (aZ : PySem.W.nsIn K mainGlobals "_law_sizes" = some (some (.ref fZ)))
    (lZ : K.lookup fZ = some ⟨ocZ, odZ, .func (PySem.W.fnOf "_law_sizes" "_law_sizes" (defArgs sSizes) (defBody sSizes) (defScope sSizes) .none kVZ dcZ pmZ anZ cdZ ctZ), slZ⟩)
    (cZ : PySem.W.codeIn K cdZ "_law_sizes" = true)
    (kZ : PySem.W.keepIn K (.ref fZ) = true)
    (aG : PySem.W.nsIn K mainGlobals "_law_gathered" = some (some (.ref fG)))
    (lG : K.lookup fG = some ⟨ocG, odG, .func (PySem.W.fnOf "_law_gathered" "_law_gathered" (defArgs sGath) (defBody sGath) (defScope sGath) .none kVG dcG pmG anG cdG ctG), slG⟩)
    (cG : PySem.W.codeIn K cdG "_law_gathered" = true)
    (kG : PySem.W.keepIn K (.ref fG) = true)
    (aQ : PySem.W.nsIn K mainGlobals "_law_learned" = some (some (.ref fQ)))
    (lQ : K.lookup fQ = some ⟨ocQ, odQ, .func (PySem.W.fnOf "_law_learned" "_law_learned" (defArgs sLl) (defBody sLl) (defScope sLl) .none kVQ dcQ pmQ anQ cdQ ctQ), slQ⟩)
    (cQ : PySem.W.codeIn K cdQ "_law_learned" = true)
    (kQ : PySem.W.keepIn K (.ref fQ) = true)
    (aN : PySem.W.nsIn K mainGlobals "_law_word" = some (some (.ref fN)))
    (lN : K.lookup fN = some ⟨ocN, odN, .func (PySem.W.fnOf "_law_word" "_law_word" (defArgs sWordK) (defBody sWordK) (defScope sWordK) .none kVN dcN pmN anN cdN ctN), slN⟩)
    (cN : PySem.W.codeIn K cdN "_law_word" = true)
    (kN : PySem.W.keepIn K (.ref fN) = true)
    (aT : PySem.W.nsIn K mainGlobals "_law_turned" = some (some (.ref fT)))
    (lT : K.lookup fT = some ⟨ocT, odT, .func (PySem.W.fnOf "_law_turned" "_law_turned" (defArgs sTurned) (defBody sTurned) (defScope sTurned) .none kVT dcT pmT anT cdT ctT), slT⟩)
    (cT : PySem.W.codeIn K cdT "_law_turned" = true)
    (kT : PySem.W.keepIn K (.ref fT) = true)
    (aS : PySem.W.nsIn K mainGlobals "_law_less" = some (some (.ref fS)))
    (lS : K.lookup fS = some ⟨ocS, odS, .func (PySem.W.fnOf "_law_less" "_law_less" (defArgs sLess) (defBody sLess) (defScope sLess) .none kVS dcS pmS anS cdS ctS), slS⟩)
    (cS : PySem.W.codeIn K cdS "_law_less" = true)
    (kS : PySem.W.keepIn K (.ref fS) = true)
    (aO : PySem.W.nsIn K mainGlobals "_law_long_right" = some (some (.ref fO)))
    (lO : K.lookup fO = some ⟨ocO, odO, .func (PySem.W.fnOf "_law_long_right" "_law_long_right" (defArgs sLong) (defBody sLong) (defScope sLong) .none kVO dcO pmO anO cdO ctO), slO⟩)
    (cO : PySem.W.codeIn K cdO "_law_long_right" = true)
    (kO : PySem.W.keepIn K (.ref fO) = true)
    (aX : PySem.W.nsIn K mainGlobals "law" = some (some (.ref fX)))
    (lX : K.lookup fX = some ⟨ocX, odX, .func (PySem.W.fnOf "law" "law" (defArgs sLaw) (defBody sLaw) (defScope sLaw) .none kVX dcX pmX anX cdX ctX), slX⟩)
    (cX : PySem.W.codeIn K cdX "law" = true)
    (kX : PySem.W.keepIn K (.ref fX) = true)
    (z_list : PySem.W.nsIn K mainGlobals "list" = some none)
    (z_int : PySem.W.nsIn K mainGlobals "int" = some none)
    (z_len : PySem.W.nsIn K mainGlobals "len" = some none)
    (z_range : PySem.W.nsIn K mainGlobals "range" = some none)
    (z_tuple : PySem.W.nsIn K mainGlobals "tuple" = some none)
    (z_isinstance : PySem.W.nsIn K mainGlobals "isinstance" = some none)
    (z_bool : PySem.W.nsIn K mainGlobals "bool" = some none)
    (z_str : PySem.W.nsIn K mainGlobals "str" = some none)
    (z_all : PySem.W.nsIn K mainGlobals "all" = some none)
    (z_zip : PySem.W.nsIn K mainGlobals "zip" = some none)
    (z_repr : PySem.W.nsIn K mainGlobals "repr" = some none)
    (z_sorted : PySem.W.nsIn K mainGlobals "sorted" = some none)
    (z_set : PySem.W.nsIn K mainGlobals "set" = some none) :
    ∃ fd : FuncData, (∀ (s : Shared) (v : Value), BindsTo s fd ⟨[v], []⟩ [("_law_script", v)]) ∧ ∀ base : Heap, K.In base → base.Ns mainGlobals mg → FnG l.prog w K mg base 6 fa fd ["_law_script"] (spLaw K) := by
  have e := hfa.symm.trans (PySem.W.mg_of X G aX)
  cases e
  have FH := fun_mk (st := sWhole) lH cH kH
  have bH := FH.binds (ps := ["thing"]) fun _ _ _ _ _ _ us hl => match us, hl with | [_], _ => rfl
  have gH := PySem.W.mg_of X G aH
  have FD := fun_mk (st := sAsc) lD cD kD
  have bD := FD.binds (ps := ["things"]) fun _ _ _ _ _ _ us hl => match us, hl with | [_], _ => rfl
  have gD := PySem.W.mg_of X G aD
  have FF := fun_mk (st := sText) lF cF kF
  have bF := FF.binds (ps := ["letters", "thing"]) fun _ _ _ _ _ _ us hl => match us, hl with | [_, _], _ => rfl
  have gF := PySem.W.mg_of X G aF
  have FA := fun_mk (st := sPairs) lA cA kA
  have bA := FA.binds (ps := ["numbers"]) fun _ _ _ _ _ _ us hl => match us, hl with | [_], _ => rfl
  have gA := PySem.W.mg_of X G aA
  have FC := fun_mk (st := sPieces) lC cC kC
  have bC := FC.binds (ps := ["width", "text"]) fun _ _ _ _ _ _ us hl => match us, hl with | [_, _], _ => rfl
  have gC := PySem.W.mg_of X G aC
  have FM := fun_mk (st := sSummed) lM cM kM
  have bM := FM.binds (ps := ["tables", "top"]) fun _ _ _ _ _ _ us hl => match us, hl with | [_, _], _ => rfl
  have gM := PySem.W.mg_of X G aM
  have FE := fun_mk (st := sEnded) lE cE kE
  have bE := FE.binds (ps := ["width", "text"]) fun _ _ _ _ _ _ us hl => match us, hl with | [_, _], _ => rfl
  have gE := PySem.W.mg_of X G aE
  have FV := fun_mk (st := sView) lV cV kV
  have bV := FV.binds (ps := ["width", "top", "text"]) fun _ _ _ _ _ _ us hl => match us, hl with | [_, _, _], _ => rfl
  have gV := PySem.W.mg_of X G aV
  have FB := fun_mk (st := sWordQ) lB cB kB
  have bB := FB.binds (ps := ["letters", "length", "thing"]) fun _ _ _ _ _ _ us hl => match us, hl with | [_, _, _], _ => rfl
  have gB := PySem.W.mg_of X G aB
  have FI := fun_mk (st := sWordsQ) lI cI kI
  have bI := FI.binds (ps := ["letters", "length", "thing"]) fun _ _ _ _ _ _ us hl => match us, hl with | [_, _, _], _ => rfl
  have gI := PySem.W.mg_of X G aI
  have FU := fun_mk (st := sShort) lU cU kU
  have bU := FU.binds (ps := ["letters", "width", "thing"]) fun _ _ _ _ _ _ us hl => match us, hl with | [_, _, _], _ => rfl
  have gU := PySem.W.mg_of X G aU
  have FJ := fun_mk (st := sJudge) lJ cJ kJ
  have bJ := FJ.binds (ps := ["letters", "thing"]) fun _ _ _ _ _ _ us hl => match us, hl with | [_, _], _ => rfl
  have gJ := PySem.W.mg_of X G aJ
  have FY := fun_mk (st := sAcc) lY cY kY
  have bY := FY.binds (ps := ["judge", "text"]) fun _ _ _ _ _ _ us hl => match us, hl with | [_, _], _ => rfl
  have gY := PySem.W.mg_of X G aY
  have FL := fun_mk (st := sLearned) lL cL kL
  have gL := PySem.W.mg_of X G aL
  have FK := fun_mk (st := sDeck) lK cK kK
  have bK := FK.binds (ps := ["_law_script"]) fun _ _ _ _ _ _ us hl => match us, hl with | [_], _ => rfl
  have gK := PySem.W.mg_of X G aK
  have FW := fun_mk (st := sDraw) lW cW kW
  have bW := FW.binds (ps := ["_law_deck_here", "_law_many"]) fun _ _ _ _ _ _ us hl => match us, hl with | [_, _], _ => rfl
  have gW := PySem.W.mg_of X G aW
  have FP := fun_mk (st := sPick) lP cP kP
  have bP := FP.binds (ps := ["_law_deck_here", "_law_some"]) fun _ _ _ _ _ _ us hl => match us, hl with | [_, _], _ => rfl
  have gP := PySem.W.mg_of X G aP
  have FZ := fun_mk (st := sSizes) lZ cZ kZ
  have bZ := FZ.binds (ps := ["_law_deck_here"]) fun _ _ _ _ _ _ us hl => match us, hl with | [_], _ => rfl
  have gZ := PySem.W.mg_of X G aZ
  have FG := fun_mk (st := sGath) lG cG kG
  have bG := FG.binds (ps := ["_law_wide", "_law_some"]) fun _ _ _ _ _ _ us hl => match us, hl with | [_, _], _ => rfl
  have gG := PySem.W.mg_of X G aG
  have FQ := fun_mk (st := sLl) lQ cQ kQ
  have bQ := FQ.binds (ps := ["_law_wide", "_law_some"]) fun _ _ _ _ _ _ us hl => match us, hl with | [_, _], _ => rfl
  have gQ := PySem.W.mg_of X G aQ
  have FN := fun_mk (st := sWordK) lN cN kN
  have bN := FN.binds (ps := ["_law_deck_here", "_law_abc"]) fun _ _ _ _ _ _ us hl => match us, hl with | [_, _], _ => rfl
  have gN := PySem.W.mg_of X G aN
  have FT := fun_mk (st := sTurned) lT cT kT
  have bT := FT.binds (ps := ["_law_deck_here", "_law_some"]) fun _ _ _ _ _ _ us hl => match us, hl with | [_, _], _ => rfl
  have gT := PySem.W.mg_of X G aT
  have FS := fun_mk (st := sLess) lS cS kS
  have bS := FS.binds (ps := ["_law_it"]) fun _ _ _ _ _ _ us hl => match us, hl with | [_], _ => rfl
  have gS := PySem.W.mg_of X G aS
  have FO := fun_mk (st := sLong) lO cO kO
  have bO := FO.binds (ps := ["_law_deck_here"]) fun _ _ _ _ _ _ us hl => match us, hl with | [_], _ => rfl
  have gO := PySem.W.mg_of X G aO
  have FX := fun_mk (st := sLaw) lX cX kX
  have gX := PySem.W.mg_of X G aX
  have n_list := PySem.W.mg_none_of X G z_list
  have n_int := PySem.W.mg_none_of X G z_int
  have n_len := PySem.W.mg_none_of X G z_len
  have n_range := PySem.W.mg_none_of X G z_range
  have n_tuple := PySem.W.mg_none_of X G z_tuple
  have n_isinstance := PySem.W.mg_none_of X G z_isinstance
  have n_bool := PySem.W.mg_none_of X G z_bool
  have n_str := PySem.W.mg_none_of X G z_str
  have n_all := PySem.W.mg_none_of X G z_all
  have n_zip := PySem.W.mg_none_of X G z_zip
  have n_repr := PySem.W.mg_none_of X G z_repr
  have n_sorted := PySem.W.mg_none_of X G z_sorted
  have n_set := PySem.W.mg_none_of X G z_set
  refine ⟨PySem.W.fnOf "law" "law" (defArgs sLaw) (defBody sLaw) (defScope sLaw) .none kVX dcX pmX anX cdX ctX, fun s v => .of_eq rfl, fun base _ _ => ?_⟩
  have TD : TxtD mg fW := ⟨n_list, n_int, n_len, gW⟩
  have TI : TxtI mg := ⟨n_isinstance, n_int, n_bool, n_str, n_tuple, n_len, n_all, n_zip⟩
  have TP : TxtP mg := ⟨n_tuple, n_sorted, n_set, n_range, n_len⟩
  have TW : TxtW3 mg fW fP := { toTxtD := TD, pick := gP, range := n_range }
  have TN : TxtLn mg := ⟨n_tuple, n_sorted, n_set, n_len⟩
  have TG : TxtG mg := { toTxtLn := TN, range := n_range }
  have TO : TxtLo mg fW fP := { toTxtW3 := TW, rep := n_repr }
  have TL : TxtL mg fW fP fK := { toTxtLo := TO, deck := gK }
  have GH := ok_whole (P := l.prog) (w := w) (base := base) FH TI
  have GF := ok_text (P := l.prog) (w := w) (base := base) FF TI
  have GDW := ok_ascW (P := l.prog) (w := w) (base := base) FD TI
  have GDP := ok_ascP (P := l.prog) (w := w) (base := base) FD TI
  have GB := ok_wordQ (P := l.prog) (w := w) (base := base) FB TI GF bF FF.kp gF
  have GI := ok_wordsQ (P := l.prog) (w := w) (base := base) FI TI GB bB FB.kp gB GDW bD FD.kp gD
  have GU := ok_shortQ (P := l.prog) (w := w) (base := base) FU TI GF bF FF.kp gF GDP bD FD.kp gD
  have GJ := ok_judgeQ (P := l.prog) (w := w) (base := base) FJ TI GH bH FH.kp gH GU bU FU.kp gU GI bI FI.kp gI
  have GA := ok_pairs (P := l.prog) (w := w) (base := base) FA TP
  have GC := ok_pieces (P := l.prog) (w := w) (base := base) FC TP GA bA FA.kp gA
  have GM := ok_summed (P := l.prog) (w := w) (base := base) FM GA bA FA.kp gA
  have GE := ok_ended (P := l.prog) (w := w) (base := base) FE TP
  have GV := ok_view (P := l.prog) (w := w) (base := base) FV TP GC bC FC.kp gC GE bE FE.kp gE GM bM FM.kp gM
  have GY := ok_acc (P := l.prog) (w := w) (base := base) FY n_len n_all GV bV FV.kp gV
  have GL := ok_lrn (P := l.prog) (w := w) (base := base) FL TN GV bV FV.kp gV
  have GW := ok_draw (P := l.prog) (w := w) (base := base) FW TD
  have GP := ok_pick (P := l.prog) (w := w) (base := base) FP FW bW TD
  have GPS := ok_pickS (P := l.prog) (w := w) (base := base) FP FW bW TD
  have GZ := ok_sizes (P := l.prog) (w := w) (base := base) FZ TW GW bW FW.kp GP bP FP.kp
  have GG := ok_gath (P := l.prog) (w := w) (base := base) FG TG
  have GQ := ok_ll (P := l.prog) (w := w) (base := base) FQ TG GL FL.kp gL
  have GN := ok_wordK (P := l.prog) (w := w) (base := base) FN TW GW bW FW.kp GPS bP FP.kp
  have GT := ok_turned (P := l.prog) (w := w) (base := base) FT TW n_list GW bW FW.kp
  have GS := ok_less (P := l.prog) (w := w) (base := base) FS TG
  have GO := ok_long (P := l.prog) (w := w) (base := base) FO TO GW bW FW.kp GP GPS bP FP.kp GL FL.kp gL GG bG FG.kp gG GY bY FY.kp gY GJ bJ FJ.kp gJ
  exact ok_law FX TL (ok_deck FK TD) bK FK.kp GW bW FW.kp GZ bZ FZ.kp gZ GN bN FN.kp gN GG bG FG.kp gG GQ bQ FQ.kp gQ GT bT FT.kp gT GJ bJ FJ.kp gJ GY bY FY.kp gY GS bS FS.kp gS GL FL.kp gL GO bO FO.kp gO
end
theorem walk {l : PySem.W.OpenLaw} {q : Program} {loose : List Str} {XP : (Str → Option Value) → Heap → Prop} {YP : World → Heap → Prop} {d : DefRec} {K : Params → PySem.W.Frag} (hn : l.most = some 63) (hdf : d.params.defaults = [])
    (hY : ∀ (w : World) (h : Heap), YP w h → (K w.params).In h)
    (F : ∀ (w : World) (mg : Str → Option Value) (fa : Addr) (h : Heap), (K w.params).In h → h.Ns mainGlobals mg → mg d.name = some (.ref fa) →
      ∃ fd : FuncData, (∀ (s : Shared) (u : Value), BindsTo s fd ⟨[u], []⟩ [("_law_script", u)]) ∧ ∀ base : Heap, (K w.params).In base → base.Ns mainGlobals mg → FnG l.prog w (K w.params) mg base 6 fa fd ["_law_script"] (spLaw (K w.params))) :
    PySem.W.WalkO q loose XP YP l.row.toRowW d [] (fun f vs => PySem.call f vs) :=
  walk_ofG (n := 63) (k := 6) (x := "_law_script") (sp := fun w => spLaw (K w.params)) hn (by decide) hdf ⟨rfl, by decide, by decide⟩ hY F (fun _ _ a ns hl _ hS => ⟨a, ns, rfl, hS, hl, fun _ => rfl⟩)
end Vf
open PySem PySem.W PyProof.Rows
set_option maxRecDepth 100000 in
set_option maxHeartbeats 0 in
theorem PySem.Challenge.cw_piecesseen_k23_judges_learned_from_texts_holds : PySem.Challenge.rw_piecesseen_k23_judges_learned_from_texts.Holds := by
  w_on; o_law; k_head; (case hw => w_witness2)
  k_fill
  refine Vf.walk (l := PySem.Challenge.rw_piecesseen_k23_judges_learned_from_texts) rfl rfl (fun w h Y => PySem.W.kIn_of Y) ?F
  case F =>
    intro w mg fa h KX G hmg
    refine' Vf.all_mk KX G hmg ?aH ?lH ?cH ?kH ?aD ?lD ?cD ?kD ?aF ?lF ?cF ?kF ?aA ?lA ?cA ?kA ?aC ?lC ?cC ?kC ?aM ?lM ?cM ?kM ?aE ?lE ?cE ?kE ?aV ?lV ?cV ?kV ?aB ?lB ?cB ?kB ?aI ?lI ?cI ?kI ?aU ?lU ?cU ?kU ?aJ ?lJ ?cJ ?kJ ?aY ?lY ?cY ?kY ?aL ?lL ?cL ?kL ?aK ?lK ?cK ?kK ?aW ?lW ?cW ?kW ?aP ?lP ?cP ?kP ?aZ ?lZ ?cZ ?kZ ?aG ?lG ?cG ?kG ?aQ ?lQ ?cQ ?kQ ?aN ?lN ?cN ?kN ?aT ?lT ?cT ?kT ?aS ?lS ?cS ?kS ?aO ?lO ?cO ?kO ?aX ?lX ?cX ?kX ?z_list ?z_int ?z_len ?z_range ?z_tuple ?z_isinstance ?z_bool ?z_str ?z_all ?z_zip ?z_repr ?z_sorted ?z_set
    (case aH => k_is)
    (case lH => k_is)
    (case cH => k_is)
    (case kH => k_is)
    (case aD => k_is)
    (case lD => k_is)
    (case cD => k_is)
    (case kD => k_is)
    (case aF => k_is)
    (case lF => k_is)
    (case cF => k_is)
    (case kF => k_is)
    (case aA => k_is)
    (case lA => k_is)
    (case cA => k_is)
    (case kA => k_is)
    (case aC => k_is)
    (case lC => k_is)
    (case cC => k_is)
    (case kC => k_is)
    (case aM => k_is)
    (case lM => k_is)
    (case cM => k_is)
    (case kM => k_is)
    (case aE => k_is)
    (case lE => k_is)
    (case cE => k_is)
    (case kE => k_is)
    (case aV => k_is)
    (case lV => k_is)
    (case cV => k_is)
    (case kV => k_is)
    (case aB => k_is)
    (case lB => k_is)
    (case cB => k_is)
    (case kB => k_is)
    (case aI => k_is)
    (case lI => k_is)
    (case cI => k_is)
    (case kI => k_is)
    (case aU => k_is)
    (case lU => k_is)
    (case cU => k_is)
    (case kU => k_is)
    (case aJ => k_is)
    (case lJ => k_is)
    (case cJ => k_is)
    (case kJ => k_is)
    (case aY => k_is)
    (case lY => k_is)
    (case cY => k_is)
    (case kY => k_is)
    (case aL => k_is)
    (case lL => k_is)
    (case cL => k_is)
    (case kL => k_is)
    (case aK => k_is)
    (case lK => k_is)
    (case cK => k_is)
    (case kK => k_is)
    (case aW => k_is)
    (case lW => k_is)
    (case cW => k_is)
    (case kW => k_is)
    (case aP => k_is)
    (case lP => k_is)
    (case cP => k_is)
    (case kP => k_is)
    (case aZ => k_is)
    (case lZ => k_is)
    (case cZ => k_is)
    (case kZ => k_is)
    (case aG => k_is)
    (case lG => k_is)
    (case cG => k_is)
    (case kG => k_is)
    (case aQ => k_is)
    (case lQ => k_is)
    (case cQ => k_is)
    (case kQ => k_is)
    (case aN => k_is)
    (case lN => k_is)
    (case cN => k_is)
    (case kN => k_is)
    (case aT => k_is)
    (case lT => k_is)
    (case cT => k_is)
    (case kT => k_is)
    (case aS => k_is)
    (case lS => k_is)
    (case cS => k_is)
    (case kS => k_is)
    (case aO => k_is)
    (case lO => k_is)
    (case cO => k_is)
    (case kO => k_is)
    (case aX => k_is)
    (case lX => k_is)
    (case cX => k_is)
    (case kX => k_is)
    (case z_list => k_is)
    (case z_int => k_is)
    (case z_len => k_is)
    (case z_range => k_is)
    (case z_tuple => k_is)
    (case z_isinstance => k_is)
    (case z_bool => k_is)
    (case z_str => k_is)
    (case z_all => k_is)
    (case z_zip => k_is)
    (case z_repr => k_is)
    (case z_sorted => k_is)
    (case z_set => k_is)
