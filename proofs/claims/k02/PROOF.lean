import PyProof.Rows.All
import Wide.All
import OpenK.AllK
import Wide.FinOn
import HandS.ForMost
import HandS.Strs
import HandS.SetFor
import HandS.SetTxt0
import HandS.Walk
import HandS.Style
import HandS.IsInst
import HandS.More
import KE.GoesMore
import HandS.ExcInit
import HandS.HotCalls
import HandS.WordsExc
import HandS.StrMore
import PyProof.Rows.StrCut
import HandS.Codes
import PySem.Challenge.RW_piecesseen_k02_letters_and_texts_of_any
set_option Elab.async false
set_option linter.all false
set_option maxRecDepth 100000
set_option maxHeartbeats 4000000
namespace Vs
open PySem PySem.Spec PyProof.Rows L2
open PySem.Froz (SD sObj addTx tailTx sing TxOk)
/-! ### a set of texts, as it grows out of a text's signs -/
theorem tail_ris {ep : Nat} {es : Array (Int × Value)} {t : SetTable} {b : Bool} (r : Ris t.place.toList) : Ris (tailTx ep es t b).2.2.place.toList := by
  unfold tailTx
  split
  · exact relayAll_ris t es _
  · exact r
theorem tail_led {ep : Nat} {es : Array (Int × Value)} {t : SetTable} {b : Bool} : (tailTx ep es t b).2.2.led = t.led := by
  unfold tailTx
  split
  · exact relayAll_led t es _
  · rfl
theorem add_ris {h : Int} {v : Value} {D : SD} (r : Ris D.2.2.place.toList) : Ris (addTx h v D).2.2.place.toList := by
  unfold addTx
  refine tail_ris ?_
  have q := layNew_ris D.2.2 D.1 h v r
  split <;> exact q
theorem add_led {h : Int} {v : Value} {D : SD} : (addTx h v D).2.2.led = D.2.2.led := by
  unfold addTx
  refine tail_led.trans ?_
  have q := layNew_led D.2.2 D.1 h v
  split <;> exact q
/-- the payload D holds just the texts l, each once, and can be walked -/
structure Tx (P : Program) (w : World) (D : SD) (l : List Str) : Prop where
  ok : TxOk P w D l
  ris : Ris D.2.2.place.toList
  led : w.params.followText "set-order" = true ∨ D.2.2.led = true
  nd : l.Nodup
section
variable {P : Program} {w : World} {A : Around} {E : Value → Shared → Prop} {s : Shared}
theorem Tx.add {D : SD} {l : List Str} {k : Str} (u : Tok) (F : Tx P w D l) (hk : k ∉ l) : Tx P w (addTx (hashStr w k) (.str k u) D) (k :: l) :=
  ⟨Froz.add_ok u F.ok, add_ris F.ris, F.led.imp id fun z => add_led.trans z, List.nodup_cons.mpr ⟨hk, F.nd⟩⟩
/-- a text that is there already -/
theorem add_old {a : Addr} {T : String} {D : SD} {l : List Str} {k : Str} {u : Tok} {Q : Bool → Shared → Prop} (ho : s.heap.get? a = some (sObj T D)) (F : TxOk P w D l) (hk : k ∈ l) (hb : l.length < scanBound)
    (h : Q false s) : wpAny (model P w) A (setAddHashed a (.str k u) (hashStr w k)) Q E s := by
  obtain ⟨es, ep, t⟩ := D
  have hd : (sObj T (es, ep, t)).data = .set es ep t := rfl
  have hf : t.fits es.size = true := F.fit
  have hel : ElemsOf (strKind P w) es.toList := F.el
  have hb0 : es.size < scanBound := by
    have z : es.size = l.length := F.sz
    omega
  obtain ⟨e, he, hi⟩ := (F.mem k).mp hk
  unfold setAddHashed setAddHashedIn
  refine wpAny_holding (wpAny_bind (wpAny_setState_of ho hd hf ?_))
  dsimp only
  rw [byScan_of rfl hb0 hel]
  simp only [↓reduceIte]
  unfold setAddByScan
  refine wpAny_bind (wpAny_bind (wpAny_rule (wpAny_bind (wpAny_setScan_of (knd := strKind P w) (k := k) (Froz.is_str k u) ho hd hf hel ?_))))
  cases hr : List.findIdx? (fun e => (strKind P w).is k e.2) es.toList with
  | none =>
    have c := List.findIdx?_eq_none_iff.mp hr e he
    rw [hi] at c
    cases c
  | some j => exact wpAny_pure (wpAny_pure h)
/-- the texts of one sign each -/
abbrev parts (x : Str) : List Str := x.cps.toList.map sing
/-- the loop that puts them in -/
theorem loop_tx {I : Addr} {fp wr : List Addr} {G : Array GenState → Array GenState → Prop} {n : Nat} {x : Str} {St : Nat → Shared → Prop} {R : Result → Shared → Prop}
    (W : WalksS P w A.in1 I fp wr G n (SignAt x) St) (S : Addr) (hSf : S ∉ fp) (hn : n = x.cps.size) (hb : n + 1 < scanBound) :
    ∀ (m i : Nat) (s : Shared), n - i = m → i ≤ n → St i s → (∃ D l, s.heap.get? S = some (sObj "set" D) ∧ Tx P w D l ∧ l.length ≤ i ∧ ∀ k, k ∈ l ↔ k ∈ (parts x).take i) →
      (∀ s' D l, Moved (S :: wr) G s s' → s'.heap.get? S = some (sObj "set" D) → Tx P w D l → (∀ k, k ∈ l ↔ k ∈ parts x) → R (.ok (.ret .none)) s') →
      codeAny (model P w) A (.builtin "set.update.loop" ⟨[.ref S, .ref I], []⟩) R s := by
  have hSw : S ∉ wr := fun h => hSf (W.sub _ h)
  have more : ∀ b ∈ wr, b ∈ S :: wr := fun b => List.mem_cons_of_mem _
  have hpl : (parts x).length = n := by rw [List.length_map, Array.length_toList, hn]
  intro m
  induction m with
  | zero =>
    intro i s hm hi hst ⟨D, l, hS, F, hl, hmem⟩ hR
    obtain rfl : i = n := by omega
    refine codeAny_builtin PyProof.Rows.F.entry_set_update_loop ?_
    rw [Around.under_plainId PyProof.Rows.F.plain_set_update_loop _]
    refine wpAny_bind (W.done s _ _ hst fun s' mv => wpAny_pure (hR s' D l (mv.mono more) (mv.heap S _ hSw hS) F fun k => ?_))
    rw [hmem k, List.take_of_length_le (Nat.le_of_eq hpl)]
  | succ m ih =>
    intro i s hm hi hst ⟨D, l, hS, F, hl, hmem⟩ hR
    refine codeAny_builtin PyProof.Rows.F.entry_set_update_loop ?_
    rw [Around.under_plainId PyProof.Rows.F.plain_set_update_loop _]
    refine wpAny_bind (W.item i s _ _ (by omega) hst fun v s1 hP hst1 mv => ?_)
    obtain ⟨c, u, hc, rfl⟩ := hP
    have hS1 := mv.heap S _ hSw hS
    have hp : (parts x)[i]? = some (sing c) := by rw [List.getElem?_map, Array.getElem?_toList, hc]; rfl
    have hnx : ∀ k, k ∈ (parts x).take (i + 1) ↔ k ∈ l ∨ k = sing c := fun k => by
      rw [List.take_add_one, hp, List.mem_append, ← hmem k]
      simp
    refine wpAny_bind (wpAny_holding ?_)
    unfold setAdd
    refine wpAny_holding (wpAny_bind ((strKind P w).pyHash (k := sing c) (Froz.is_str _ _) ?_))
    by_cases hk : sing c ∈ l
    · refine add_old (s := { s1 with toks := s1.toks + 1 }) hS1 F.ok hk (by omega) ?_
      refine wpAny_pure ⟨plainId_quiet PyProof.Rows.F.plain_set_update_loop _, ih (i + 1) _ (by omega) (by omega) (W.frame _ s1 _ _ hst1 (Nat.le_succ _) fun b _ o e => e) ⟨D, l, hS1, F, by omega, fun k => ?_⟩ fun s2 D2 l2 mv2 hS2 F2 h2 => ?_⟩
      · rw [hnx k]
        exact ⟨.inl, fun z => z.elim id fun z => z ▸ hk⟩
      · exact hR s2 D2 l2 (Moved.trans W.gtrans ((mv.mono more).then_heap (Nat.le_succ _) fun b o _ e => e) mv2) hS2 F2 h2
    · refine Froz.add_x (s := { s1 with toks := s1.toks + 1 }) hS1 F.ok hk (by omega) ?_
      have hS2 : (s1.heap.update S (fun _ => sObj "set" (addTx (hashStr w (sing c)) (.str (sing c) u) D))).get? S = some (sObj "set" (addTx (hashStr w (sing c)) (.str (sing c) u) D)) := Froz.get_upd _ hS1 rfl
      have other : ∀ b o, b ≠ S → s1.heap.get? b = some o → (s1.heap.update S (fun _ => sObj "set" (addTx (hashStr w (sing c)) (.str (sing c) u) D))).get? b = some o := fun b o n e => (Heap.get?_update_other _ _ (Ne.symm n)).trans e
      refine wpAny_pure ⟨plainId_quiet PyProof.Rows.F.plain_set_update_loop _, ih (i + 1) _ (by omega) (by omega) (W.frame _ s1 _ _ hst1 (Nat.le_succ _) fun b hb' o e => other b o (fun z => hSf (z ▸ hb')) e) ⟨_, sing c :: l, hS2, F.add u hk, (by simp only [List.length_cons]; omega), fun k => ?_⟩ fun s2 D2 l2 mv2 hS3 F2 h2 => ?_⟩
      · rw [hnx k, List.mem_cons]
        exact Or.comm
      · exact hR s2 D2 l2 (Moved.trans W.gtrans ((mv.mono more).then_heap (Nat.le_succ _) fun b o nb e => other b o (fun z => nb (z ▸ List.mem_cons_self ..)) e) mv2) hS3 F2 h2
end
end Vs

set_option Elab.async false
set_option linter.all false
set_option maxRecDepth 100000
set_option maxHeartbeats 4000000
namespace Vs
open PySem PySem.Spec PyProof.Rows L2
open PySem.Froz (SD sObj addTx tailTx sing TxOk)
section
variable {P : Program} {w : World} {A : Around} {E : Value → Shared → Prop} {s : Shared}
/-- the empty payload of a new set -/
abbrev emptyD (w : World) : SD := (#[], 0, .fresh 0 0 (!w.params.followText "set-order"))
theorem tx_empty : Tx P w (emptyD w) [] := by
  refine ⟨TxOk.nil (by rfl), List.Pairwise.nil, ?_, List.nodup_nil⟩
  show _ ∨ (!w.params.followText "set-order") = true
  cases w.params.followText "set-order" <;> simp
/-- where set(v) goes once the new set stands: its __init__ -/
theorem set_by_init {v : Value} {Q : Value → Shared → Prop}
    (h : ∀ R : Result → Shared → Prop, (∀ s₂, Q (.ref s.heap.objs.size) s₂ → R (.ok (.ret .none)) s₂) → wpAny (model P w) A.in1.in1 (Builtin.«set.__init__» ⟨[.ref s.heap.objs.size, v], []⟩)
      (fun fin s' => match fin with | .done f => R (.ok f) s' | .again c' => c'.quiet = true ∧ codeAny (model P w) A.in1 c' R s') (fun e s' => R (.error e) s') { s with heap := s.heap.push (sObj "set" (emptyD w)) }) :
    wpAny (model P w) A (call (.type "set") [v]) Q E s := by
  obtain ⟨c, tl, hmro⟩ := F.called_set.mro
  have g1 := F.called_set.made
  have g2 := F.called_set.sub
  have g3 := F.called_set.notType
  have g4 := F.called_set.canCreate
  have g5 := F.typeCall_set_1 v
  refine wpAny_call (codeAny_of_tree ?_)
  refine wpAny_pure ⟨Code.quiet_builtin _ (by decide +kernel), codeAny_builtin F.entry_type_call ?_⟩
  rw [Around.under_plain (weight_type_call_type "set" [v] []) rfl]
  repeat (any_goals (first | assumption | wp_step))
  refine codeAny_mono (code_set_led1 v (E := E) (Q₁ := fun obj s₁ => obj = .ref s.heap.objs.size ∧ s₁ = { s with heap := s.heap.push (sObj "set" (emptyD w)) }) ⟨rfl, rfl⟩) fun r s₁ hr => ?_
  match r, hr with
  | .ok (.ret obj), hr =>
    obtain ⟨rfl, rfl⟩ := hr
    have hS : (s.heap.push (sObj "set" (emptyD w))).get? s.heap.objs.size = some (sObj "set" (emptyD w)) := Heap.get?_push_size _ rfl
    have hT : Shared.TypeIs { s with heap := s.heap.push (sObj "set" (emptyD w)) } (.ref s.heap.objs.size) "set" := ⟨_, hS, rfl⟩
    have g6 := F.called_set.init.lookup
    have g7 := F.called_set.init.bind (.ref s.heap.objs.size)
    repeat (any_goals (first | assumption | wp_step))
    refine codeAny_mono (codeAny_call_builtin (R := wants (fun r s₂ => r = .none ∧ Q (.ref s.heap.objs.size) s₂) E) F.called_set.init.plain F.entry_set_init (check_set_init_1 hT (h _ fun s₂ q => ⟨rfl, q⟩))) fun r₂ s₂ hr₂ => ?_
    match r₂, hr₂ with
    | .ok (.ret _), hr₂ =>
      obtain ⟨rfl, q⟩ := hr₂
      repeat (any_goals (first | assumption | wp_step))
    | .error e, hr₂ => exact hr₂
    | .ok .next, hr₂ => exact hr₂.elim
    | .ok .brk, hr₂ => exact hr₂.elim
    | .ok .cont, hr₂ => exact hr₂.elim
  | .error e, hr => exact hr
  | .ok .next, hr => exact hr.elim
  | .ok .brk, hr => exact hr.elim
  | .ok .cont, hr => exact hr.elim
end
end Vs

set_option Elab.async false
set_option linter.all false
set_option maxRecDepth 100000
set_option maxHeartbeats 4000000
namespace Vs
open PySem PySem.Spec PyProof.Rows L2
open PySem.Froz (SD sObj addTx tailTx sing TxOk)
section
variable {P : Program} {w : World} {A : Around} {E : Value → Shared → Prop} {s : Shared}
theorem sub_str_set : isSubtype (.type "str") (.type "set") = pure false := by rw [isSubtype_type]; kernel_rfl
theorem sub_str_frozenset : isSubtype (.type "str") (.type "frozenset") = pure false := by rw [isSubtype_type]; kernel_rfl
/-- set(text) -/
theorem call_set_text {x : Str} {u : Tok} {Q : Value → Shared → Prop} (hh : A.handled = none) (hb : x.cps.size + 1 < scanBound)
    (h : ∀ (s' : Shared) D l, (∀ b o, s.heap.get? b = some o → s'.heap.get? b = some o) → s'.gens = s.gens → s'.os = s.os → s'.heap.get? s.heap.objs.size = some (sObj "set" D) → Tx P w D l → (∀ k, k ∈ l ↔ k ∈ parts x) → Q (.ref s.heap.objs.size) s') :
    wpAny (model P w) A (call (.type "set") [.str x u]) Q E s := by
  refine set_by_init fun R hR => ?_
  have hS : (s.heap.push (sObj "set" (emptyD w))).get? s.heap.objs.size = some (sObj "set" (emptyD w)) := Heap.get?_push_size _ rfl
  have hz : (s.heap.push (sObj "set" (emptyD w))).objs.size = s.heap.objs.size + 1 := Heap.size_push ..
  have hold : ∀ b o, s.heap.get? b = some o → (s.heap.push (sObj "set" (emptyD w))).get? b = some o := fun b o e => Heap.get?_push_of_some _ e
  have t1 := sub_str_set
  have t2 := sub_str_frozenset
  have t3 : (Value.type "str" == Value.type "dict") = false := by decide
  generalize s.heap.push (sObj "set" (emptyD w)) = h1 at hS hz hold ⊢
  unfold Builtin.«set.__init__» noKeywords Builtin.Frozenset.updateFrom
  generalize hPI : pyIter = PI
  wp_walk
  subst hPI
  refine wpAny_pyIter_str fun o St W hst => wpAny_bind (wpAny_runValue ?_)
  have hx : ∀ b u', h1.get? b = some u' → b ≠ h1.objs.size := fun b u' e => Nat.ne_of_lt (Heap.lt_size e)
  have hSf : s.heap.objs.size ∉ [h1.objs.size] := fun z => hx _ _ hS (List.mem_singleton.mp z)
  refine loop_tx (W _ (by simp [hh])).toS s.heap.objs.size hSf rfl hb _ 0 _ rfl (Nat.zero_le _) hst ⟨_, [], Heap.get?_push_of_some _ hS, tx_empty, Nat.le_refl _, fun k => by simp⟩ fun s2 D l mv hS2 F hm => ?_
  refine wpAny_pure (wpAny_pure (hR _ (h s2 D l (fun b o' e => ?_) mv.gens mv.os hS2 F hm)))
  refine mv.heap b o' (fun z => ?_) (Heap.get?_push_of_some _ (hold b o' e))
  rcases List.mem_cons.mp z with z | z
  · rw [z] at e
    exact Nat.lt_irrefl _ (Heap.lt_size e)
  · exact hx _ _ (hold b o' e) (List.mem_singleton.mp z)
/-! ### sorted(set of texts) -/
theorem strs_of : ∀ (l : List Value), (∀ v ∈ l, ∃ k tk, v = Value.str k tk) → StrsAre l (l.map strOf)
  | [], _ => .nil
  | v :: l, h => by
    obtain ⟨k, tk, rfl⟩ := h v (List.mem_cons_self ..)
    exact .cons k tk (strs_of l fun u hu => h u (List.mem_cons_of_mem _ hu))
theorem perm_same {α : Type} [DecidableEq α] : ∀ (l m : List α), l.Nodup → (∀ k ∈ l, k ∈ m) → m.length ≤ l.length → m.Perm l
  | [], m, _, _, h => by rw [List.length_eq_zero_iff.mp (Nat.le_zero.mp h)]
  | x :: l, m, d, s, h => by
    obtain ⟨d1, d2⟩ := List.nodup_cons.mp d
    have hx := s x (List.mem_cons_self ..)
    have p := List.perm_cons_erase hx
    have hl := p.length_eq
    simp only [List.length_cons] at hl h
    exact p.trans ((perm_same l (m.erase x) d2 (fun k hk => (List.mem_erase_of_ne fun z : k = x => d1 (by rw [← z]; exact hk)).mpr (s k (List.mem_cons_of_mem _ hk))) (by omega)).cons x)
theorem Tx.vals {D : SD} {l : List Str} (F : Tx P w D l) : (∀ e ∈ D.1.toList, ∃ k tk, e.2 = Value.str k tk ∧ k ∈ l) ∧ (D.1.toList.map fun e => strOf e.2).Perm l := by
  have h1 : ∀ e ∈ D.1.toList, ∃ k tk, e.2 = Value.str k tk ∧ k ∈ l := fun e he => by
    obtain ⟨⟨k, hk, _⟩, _⟩ := F.ok.el e he
    have hi : Value.isStrOf k e.2 = true := hk
    obtain ⟨hv, v⟩ := e
    cases v <;> simp [Value.isStrOf] at hi
    exact ⟨_, _, rfl, (F.ok.mem _).2 ⟨_, he, by subst hi; exact Froz.is_str _ _⟩⟩
  refine ⟨h1, ?_⟩
  have sub : ∀ k ∈ l, k ∈ D.1.toList.map fun e => strOf e.2 := fun k hk => by
    obtain ⟨e, he, hi⟩ := (F.ok.mem k).1 hk
    refine List.mem_map.mpr ⟨e, he, ?_⟩
    have hi : Value.isStrOf k e.2 = true := hi
    obtain ⟨hv, v⟩ := e
    cases v <;> simp [Value.isStrOf] at hi
    exact hi
  have len : (D.1.toList.map fun e => strOf e.2).length = l.length := by
    rw [List.length_map, Array.length_toList]
    exact F.ok.sz
  exact perm_same _ _ F.nd sub (Nat.le_of_eq len)
theorem sorted_set_text {a : Addr} {D : SD} {l : List Str} {Q : Value → Shared → Prop} (ho : s.heap.get? a = some (sObj "set" D)) (F : Tx P w D l) (hh : A.handled = none) (h64 : l.length < 64)
    (h : ∀ (s' : Shared) p (out : List Value) (c : Nat) (ys : List Str), (∀ b o, s.heap.get? b = some o → s'.heap.get? b = some o) → s'.gens = s.gens → s'.os = s.os → s.heap.objs.size ≤ p →
      s'.heap.get? p = some (seqObj "list" out.toArray c) → StrsAre out ys → ys.Perm l → sortedS ys = true → Q (.ref p) s') :
    wpAny (model P w) A (call (.builtin "sorted") [.ref a]) Q E s := by
  obtain ⟨v1, v2⟩ := F.vals
  have hsz : D.1.size = l.length := F.ok.sz
  refine Calls.call_function_entry kind_sorted plain_sorted entry_sorted (args_sorted1 _) ?_
  unfold Builtin.«sorted»
  refine wpAny_bind (m := checkCount "sorted" 1 1 _) (wpAny_pure ?_)
  refine wpAny_bind (collect_set (A := A.in1) (es := D.1) (ep := D.2.1) (t := D.2.2) hh ⟨_, ho, rfl, rfl⟩ F.ok.fit (by rw [hsz]; exact Nat.lt_trans h64 (by decide)) F.ris F.led fun s1 vs k1 z1 g1 o1 pm => ?_)
  have len : vs.length = l.length := by rw [pm.length_eq, List.length_map, Array.length_toList, hsz]
  have hS : StrsAre vs (vs.map strOf) := strs_of vs fun v hv => by
    obtain ⟨e, he, rfl⟩ := List.mem_map.mp (pm.mem_iff.mp hv)
    obtain ⟨k, tk, q, _⟩ := v1 e he
    exact ⟨k, tk, q⟩
  have pl : (vs.map strOf).Perm l := (pm.map strOf).trans (by rw [List.map_map]; exact v2)
  refine wpAny_bind (wpAny_newList ?_ (by rw [len, sizeLine_eq]; omega))
  have hL : (s1.heap.push (seqObj "list" vs.toArray 0)).get? s1.heap.objs.size = some (seqObj "list" vs.toArray 0) := Heap.get?_push_size _ rfl
  refine wpAny_bind (wpAny_holding (wpAny_call_entry slot_list_sort ⟨_, hL, rfl⟩ entry_list_sort
    (list_sort_treeK strKind_oneLt hL hS.keysOf (fun v₁ v₂ rest e => keyKind_strs (by rw [← e]; exact hS)) (by rw [len]; exact h64) fun st' hp hs => ⟨_, rfl, ?_⟩) (args_list_sort _)))
  obtain ⟨ys, y1, y2, y3⟩ := sorted_out_str hS hp hs
  obtain ⟨c, hc⟩ := sortedHeap_at (vs := vs) (out := (arrOf st').map (·.2)) hL
  refine wpAny_pure ⟨_, rfl, h _ s1.heap.objs.size _ c ys (fun b u e => ?_) g1 o1 z1 (by rw [Array.toArray_toList]; exact hc) y1 (y2.trans pl) y3⟩
  have q := k1 b u e
  have hb := Heap.lt_size q
  show (sortedHeap (s1.heap.push (seqObj "list" vs.toArray 0)) s1.heap.objs.size vs _).get? b = some u
  rw [sortedHeap_old (Nat.ne_of_lt hb) (by rw [size_push']; exact Nat.lt_succ_of_lt hb)]
  exact Heap.get?_push_of_some _ q
end
/-! ### the rules -/
def SetTx (P : Program) (w : World) (h : Heap) (a : Addr) (l : List Str) : Prop := ∃ D, h.get? a = some (sObj "set" D) ∧ Tx P w D l
def SetTxO (P : Program) (w : World) (a : Addr) (l : List Str) : HO := .ext fun h => SetTx P w h a l
section
variable {X : Cx}
theorem setTxO_new {P : Program} {w : World} {H : Hp} {h : Heap} {a : Addr} {l : List Str} (R : SetTx P w h a l) : ObjOk P w H h a (SetTxO P w a l) := by
  have ⟨D, ho, F⟩ := R
  exact ⟨R, ⟨_, ho⟩, fun h1 h2 z p => let ⟨D, e, F⟩ := z; ⟨D, p _ e, F⟩⟩
/-- a call of a built-in that lays one new object and moves nothing else -/
theorem laid_new {pins : List (Addr × Obj)} {σ : L2.St} {H : Hp} {s s' : Shared} {p : Addr} {o : HO} {Q : VK} (I : Inv X pins σ H s) (k : ∀ b u, s.heap.get? b = some u → s'.heap.get? b = some u) (g : s'.gens = s.gens) (ho : s'.os = s.os)
    (hp : s.heap.objs.size ≤ p) (new : ObjOk X.prog X.w (upd H p o) s'.heap p o) (q : H p = none → Q (.ref p) (upd H p o)) : EP X pins σ Q (.ref p) s' := by
  have hn : H p = none := I.hok.fresh hp
  exact ⟨.ref p, _, I.call' ho (ch := []) (Un.laid k hp hn) (I.hok.laid k hp new) (by rw [g]; exact I.bare) (fun _ z => nomatch z), rfl, q hn⟩
/-- set(text) -/
theorem cr_setText (hc : X.calm = true) : CallR X (.type "set") (fun xs H Q => ∃ x, xs = [.str x] ∧ x.length < 4000 ∧ ∀ a l, H a = none → l.Nodup → (∀ k, k ∈ l ↔ k ∈ parts x) → Q (.ref a) (upd H a (SetTxO X.prog X.w a l))) := by
  intro pins s σ H vs us Q I r h
  obtain ⟨x, rfl, hx, q⟩ := h
  obtain ⟨u, rfl, rx⟩ := vals1 r
  obtain ⟨tk, rfl⟩ := rx
  have hx : x.cps.size < 4000 := hx
  refine call_set_text (I.ok.hd hc) (Nat.lt_trans (Nat.succ_lt_succ hx) (by decide)) fun s' D l k g o hS F hm => ?_
  exact laid_new I k g o (Nat.le_refl _) (setTxO_new ⟨D, hS, F⟩) fun hn => q _ l hn F.nd hm
/-- sorted(set of texts) -/
theorem cr_sortedText (hc : X.calm = true) : CallR X (.builtin "sorted") (fun xs H Q => ∃ a l, xs = [.ref a] ∧ H a = some (SetTxO X.prog X.w a l) ∧ l.length < 64 ∧ ∀ ys p, ys.Perm l → sortedS ys = true → H p = none → Q (.ref p) (upd H p (.lst (ys.map .str)))) := by
  intro pins s σ H vs us Q I r h
  obtain ⟨a, l, rfl, ha, h64, q⟩ := h
  rw [Vals.ref1 r]
  obtain ⟨D, hS, F⟩ : SetTx X.prog X.w s.heap a l := (I.hok a _ ha).1
  refine sorted_set_text hS F (I.ok.hd hc) h64 fun s' p out c ys k g o hp hg hv pm so => ?_
  have len : (ys.map V.str).length ≤ sizeLine := by rw [List.length_map, pm.length_eq, sizeLine_eq]; omega
  have new : ObjOk X.prog X.w (upd H p (.lst (ys.map V.str))) s'.heap p (.lst (ys.map .str)) := ⟨len, out, c, vals_of_strs hv, hg⟩
  exact laid_new I k g o hp new fun hn => q ys p pm so hn
/-- list(text) -/
theorem cr_listText (hc : X.calm = true) : CallR X (.type "list") (fun xs H Q => ∃ x, xs = [.str x] ∧ x.length ≤ sizeLine ∧ ∀ p, H p = none → Q (.ref p) (upd H p (.lst ((parts x).map .str)))) := by
  intro pins s σ H vs us Q I r h
  obtain ⟨x, rfl, hx, q⟩ := h
  obtain ⟨u, rfl, rx⟩ := vals1 r
  obtain ⟨tk, rfl⟩ := rx
  have hx : x.cps.size ≤ sizeLine := hx
  refine call_list_str (I.ok.hd hc) x tk (hn := hx) fun h' t' acc c k hS it => ?_
  have hv : StrsAre acc.toList (parts x) := by
    have st := strs_of acc.toList fun v hv => by
      obtain ⟨i, hi, e⟩ := List.getElem_of_mem hv
      obtain ⟨c, u, _, q⟩ := it.2 i v (by rw [← Array.getElem?_toList, List.getElem?_eq_getElem hi, e])
      exact ⟨_, u, q⟩
    have e : acc.toList.map strOf = parts x := by
      apply List.ext_getElem?
      intro i
      rw [List.getElem?_map, List.getElem?_map, Array.getElem?_toList, Array.getElem?_toList]
      cases ha : acc[i]? with
      | none =>
        have z : x.cps[i]? = none := by
          have z1 := Array.getElem?_eq_none_iff.mp ha
          rw [it.1] at z1
          exact Array.getElem?_eq_none_iff.mpr z1
        rw [z]; rfl
      | some v =>
        obtain ⟨c, u, h1, h2⟩ := it.2 i v ha
        rw [h1, h2]; rfl
    rw [e] at st
    exact st
  have len : ((parts x).map V.str).length ≤ sizeLine := by
    rw [List.length_map, List.length_map, Array.length_toList]
    exact hx
  have new : ObjOk X.prog X.w (upd H s.heap.objs.size (.lst ((parts x).map V.str))) h' s.heap.objs.size (.lst ((parts x).map .str)) := ⟨len, acc.toList, c, vals_of_strs hv, by rw [Array.toArray_toList]; exact hS⟩
  exact laid_new (s' := { s with heap := h', toks := t' }) I k rfl rfl (Nat.le_refl _) new (q _)
end
end Vs

set_option Elab.async false
set_option linter.all false
set_option maxRecDepth 100000
set_option maxHeartbeats 4000000
namespace Vs
open PySem PySem.Spec PyProof.Rows L2
/-! ### zip of two texts -/
def Itzs (x y : Str) : It :=
  ⟨fun i _ => i < x.cps.size ∧ i < y.cps.size, fun i H v H' => ∃ T c d, v = .ref T ∧ H T = none ∧ H' = upd H T (.tup [.str ⟨#[c]⟩, .str ⟨#[d]⟩]) ∧ x.cps[i]? = some c ∧ y.cps[i]? = some d,
    fun i _ => (i ≤ x.cps.size ∧ i ≤ y.cps.size) ∧ (i = x.cps.size ∨ i = y.cps.size)⟩
section
variable {P : Program} {w : World} {K : PySem.W.Frag}
def StZ (x y : Str) (t u : Tok) (z TI TO i1 i2 : Addr) (i : Nat) (h : Heap) : Prop :=
  IsZip h z TI TO .none ∧ IsTupOf2 h TI (.ref i1) (.ref i2) ∧ (∃ a b, IsTupOf2 h TO a b) ∧ h.IsStrIter i1 (strIterType x) x t i ∧ h.IsStrIter i2 (strIterType y) y u i
theorem in5 {c z TI TO i1 i2 : Addr} (h : c ∈ [z, TI, TO, i1, i2]) : c = z ∨ c = TI ∨ c = TO ∨ c = i1 ∨ c = i2 := by simpa using h
theorem StZ.there {x y : Str} {t u : Tok} {z TI TO i1 i2 : Addr} {i : Nat} {h : Heap} (S : StZ x y t u z TI TO i1 i2 i h) (c : Addr) (hc : c ∈ [z, TI, TO, i1, i2]) : ∃ o, h.get? c = some o ∧ ∀ v, o.data ≠ .cell v := by
  obtain ⟨s1, s2, ⟨a, b, s3⟩, ⟨o1, e1, _, d1⟩, ⟨o2, e2, _, d2⟩⟩ := S
  rcases in5 hc with rfl | rfl | rfl | rfl | rfl
  · exact ⟨_, s1, fun _ q => nomatch q⟩
  · exact ⟨_, s2, fun _ q => nomatch q⟩
  · exact ⟨_, s3, fun _ q => nomatch q⟩
  · exact ⟨o1, e1, fun _ q => by rw [d1] at q; cases q⟩
  · exact ⟨o2, e2, fun _ q => by rw [d2] at q; cases q⟩
theorem turn_texts {elts : List Expr} {kk : Nat} {tpos : Pos} {x y : Str} {t u : Tok} {z TI TO i1 i2 : Addr} (D : ZipSep2 z TI TO i1 i2 [i1] [i2]) (tO : TI ≠ TO) :
    Turn P w K (.Tuple elts kk tpos) (Itzs x y) [z, TI, TO, i1, i2] z (StZ x y t u z TI TO i1 i2) where
  mem := by simp
  obj := fun i h st => st.there
  keep := fun i h h' st k => by
    obtain ⟨s1, s2, ⟨a, b, s3⟩, ⟨o1, e1, r1⟩, ⟨o2, e2, r2⟩⟩ := st
    exact ⟨k _ (by simp) _ s1, k _ (by simp) _ s2, ⟨a, b, k _ (by simp) _ s3⟩, ⟨o1, k _ (by simp) _ e1, r1⟩, ⟨o2, k _ (by simp) _ e2, r2⟩⟩
  item := by
    intro X hP hw hK hc i pins s σ H E I hf st hg
    subst hP hw hK
    obtain ⟨s1, s2, ⟨a, b, s3⟩, s4, s5⟩ := id st
    have hh := I.ok.hd hc
    have hT : s.TypeIs (.ref z) "zip" := ⟨_, s1, rfl⟩
    have old : ∀ c ∈ [z, TI, TO, i1, i2], c < s.heap.objs.size := fun c hc => let ⟨o, e, _⟩ := st.there c hc; Heap.lt_size e
    unfold pyNext
    refine wpAny_bind (wpAny_attempt (wpAny_callSpecial?_slot (name := Str.ofString "__next__") hT F.slot_zip_next (wpAny_call_entry F.slot_zip_next hT F.entry_zip_next
      (zipD2_next_item D (Draws.text (by exact hh) i1 x t) (Draws.text (by exact hh) i2 y u) s1 s2 s3 s4 s5 hg.1 hg.2 fun x1 x2 h' tk p1 p2 z' to' s4' s5' tn hsz keep => wpAny_pure ?_) (F.args_zip_next_1 _))))
    obtain ⟨c, tc, hc1, rfl⟩ := p1
    obtain ⟨d, td, hd1, rfl⟩ := p2
    refine ⟨_, rfl, wpAny_letOwnedTupleGo_zip (s := { s with heap := h', toks := tk }) z' fun h2 z2 sb => ?_⟩
    have at2 : ∀ b o, b ≠ z → h'.get? b = some o → h2.get? b = some o := fun b o n e => (sb.2 b n).trans e
    have zn : s.heap.objs.size ≠ z := Nat.ne_of_gt (Heap.lt_size s1)
    have new : ObjOk X.prog X.w (upd H s.heap.objs.size (.tup [.str ⟨#[c]⟩, .str ⟨#[d]⟩])) h2 s.heap.objs.size (.tup [.str ⟨#[c]⟩, .str ⟨#[d]⟩]) :=
      ⟨by show 2 ≤ sizeLine; decide, _, .cons ⟨tc, rfl⟩ (.cons ⟨td, rfl⟩ .nil), ⟨_, at2 _ _ zn tn, rfl, _, rfl⟩⟩
    have all : ∀ c o, c ∉ [z, TI, TO, i1, i2] → s.heap.get? c = some o → h2.get? c = some o := fun c o hb q =>
      at2 c o (fun e => hb (by simp [e])) (keep c o (fun e => hb (by simp [e])) (fun e => hb (by simp [e])) (fun e => hb (by simp [e])) (fun e => hb (by simp [e])) q)
    have I1 := I.turnedNew (t' := tk) (ch := [z, TI, TO, i1, i2]) all hf (Nat.le_refl _) new
    refine ⟨.ref s.heap.objs.size, _, I1, rfl, ⟨_, c, d, rfl, I.hok.fresh (Nat.le_refl _), rfl, hc1, hd1⟩, ⟨z2, ?_, ⟨_, _, at2 _ _ D.TOz to'⟩, ?_, ?_⟩, fun b hb => ?_⟩
    · exact at2 _ _ D.TIz (keep _ _ D.TIz tO D.TIi1 D.TIi2 s2)
    · obtain ⟨o, e, r⟩ := s4'
      exact ⟨o, at2 _ _ D.zi1.symm e, r⟩
    · obtain ⟨o, e, r⟩ := s5'
      exact ⟨o, at2 _ _ D.zi2.symm e, r⟩
    · rw [upd_ne (Nat.ne_of_lt (old b hb))]
      exact (hf b hb).1
  done := by
    intro X hP hw hK hc i pins s σ H E I hf st hg
    subst hP hw hK
    obtain ⟨s1, s2, ⟨a, b, s3⟩, s4, s5⟩ := id st
    have hh := I.ok.hd hc
    have hT : s.TypeIs (.ref z) "zip" := ⟨_, s1, rfl⟩
    unfold pyNext
    refine wpAny_bind (wpAny_attempt (wpAny_callSpecial?_slot (name := Str.ofString "__next__") hT F.slot_zip_next (wpAny_call_entry F.slot_zip_next hT F.entry_zip_next
      (zipD2_next_end D (Draws.text (by exact hh) i1 x t) (Draws.text (by exact hh) i2 y u) s1 s2 s3 s4 s5 hg.1.1 hg.1.2 hg.2 fun h' tk e keep he => ?_) (F.args_zip_next_1 _))))
    obtain ⟨o, ho, hcl⟩ := he
    refine wpAny_bind (wpAny_isInstance (T := "StopIteration") (b := true) ⟨o, ho, hcl⟩ isSubtype_stop (wpAny_pure ⟨rfl, ?_⟩))
    exact I.turnedL (t' := tk) (ch := [z, TI, TO, i1, i2]) (fun c o hb q => keep c o (fun e => hb (by simp [e])) (fun e => hb (by simp [e])) (fun e => hb (by simp [e])) (fun e => hb (by simp [e])) q) hf
  self := fun A i s Q E st h => wpAny_pyIter_zip st.1 h
end
def iZipS (ta : TA) : TI := fun σ H R => ta σ H fun vs H1 => ∃ x y, vs = [.str x, .str y] ∧ R (Itzs x y) H1
theorem pi_zipS {X : Cx} {e e2 : Expr} {ta : TA} {p pos tpos : Pos} {elts : List Expr} {kk : Nat} (hg : Gl X "zip") (hm : X.mg "zip" = none) (ha : PA X [e, e2] ta)
    (hs : starEach [e, e2] X.env = (false, eval e X.env) :: starEach [e2] X.env := by rfl) (hpl : (backTo pos (starEach [e2] X.env)).any (·.1) = false := by rfl) :
    PI X (.Tuple elts kk tpos) (.Call (.Name "zip" p) [e, e2] [] pos) (iZipS ta) := by
  refine ⟨fun pins s σ H R I h => ?_⟩
  refine Call_ (ld_blt I hg hm PyProof.Rows.boot_zip (PyProof.Rows.callWith_type1 (thn (ha.run pos pins s σ H _ I h) fun us s1 q1 => ?_) hs hpl))
  obtain ⟨vs, H1, I1, r1, x, y, rfl, q⟩ := q1
  obtain ⟨u1, u2, rfl, ⟨t, rfl⟩, ⟨u, rfl⟩⟩ := vals2 r1
  refine zip_begins2 (begins_text x t) (begins_text y u) trivial trivial fun h' hz hTI hTO h1 h2 hsz hk => wpAny_pyIter_zip hz ?_
  have I2 : Inv X pins σ H1 { s1 with heap := h' } := I1.kept (t' := s1.toks) hk
  have sep : ZipSep2 (s1.heap.objs.size + 4) (s1.heap.objs.size + 2) (s1.heap.objs.size + 3) s1.heap.objs.size (s1.heap.objs.size + 1) [s1.heap.objs.size] [s1.heap.objs.size + 1] := by
    constructor <;> simp <;> omega
  refine ⟨s1.heap.objs.size + 4, _, _, _, H1, rfl, I2, turn_texts (t := t) (u := u) sep (Nat.ne_of_lt (Nat.lt_succ_self _)), ⟨hz, hTI, ⟨_, _, hTO⟩, ⟨_, h1, rfl, rfl⟩, ⟨_, h2, rfl, rfl⟩⟩, fun c hcm => ?_, q⟩
  have hle : s1.heap.objs.size ≤ c := by
    rcases in5 hcm with z | z | z | z | z <;> rw [z] <;> first | exact Nat.le_refl _ | exact Nat.le_add_right _ _
  exact I1.fpOk hle (I1.hok.fresh hle)
theorem walk_texts {x y : Str} {n : Nat} (hn : n = min x.cps.size y.cps.size) : Walk (Itzs x y) n (fun _ => True) (fun i H v H' => ∃ T c d, v = .ref T ∧ H T = none ∧ H' = upd H T (.tup [.str ⟨#[c]⟩, .str ⟨#[d]⟩]) ∧ x.cps[i]? = some c ∧ y.cps[i]? = some d) := by
  subst hn
  exact ⟨fun i _ hi _ => ⟨by omega, by omega⟩, fun _ _ => ⟨⟨by omega, by omega⟩, by omega⟩, fun _ _ _ _ _ _ y => y⟩
end Vs

set_option Elab.async false
set_option linter.all false
set_option maxRecDepth 100000
set_option maxHeartbeats 4000000
namespace L2
namespace Vx
open PySem PySem.Spec PyProof.Rows
/-! ### a def that is called where no repr is under way (so that repr may be called in it) -/
structure FnG (P : Program) (w : World) (K : PySem.W.Frag) (mg : Str → Option Value) (base : Heap) (k : Nat) (f : Addr) (fd : FuncData) (ps : List Str) (sp : Sp) : Prop where
  run : ∀ (A : Around) (outer : List Env) (s : Shared) (H : Hp) (args : Args) (us : List Value) (vs : List V) (Q : VK) (E : XK), Room k A → A.guards = some [] → Env0 P w K mg base A outer s H → BindsTo s fd args (ps.zip us) → Vals vs us → sp vs H Q E →
    codeAny (model P w) A (.call (.ref f) args) (CR CX0 outer P w H s Q E) s
section
variable {P : Program} {w : World} {K : PySem.W.Frag} {mg : Str → Option Value} {base : Heap}
theorem FunG {x qual : Str} {st : Stmt} {f : Addr} {fd : FuncData} {N ps : List Str} {k : Nat} {sp : Sp} (F : Fun K x qual st f fd) (S : FnScope N ps (defScope st)) (len : ∀ vs H Q E, sp vs H Q E → vs.length = ps.length)
    (hbody : ∀ (cdv : Value) (A : Around) (outer : List Env) (s : Shared) (H : Hp) (vs : List V) (Q : VK) (E : XK), Room k (A.deeper (envOfC qual (defScope st) s.heap.objs.size f cdv)) → A.guards = some [] → sp vs H Q E →
      ∃ t, PSs (cxOf CX0 P w K mg base N qual (defScope st) f cdv A outer s H E).nox (defBody st) t ∧ t { nx := fun _ H' => Q .non H', rt := Q } (start N vs) H) : FnG P w K mg base (k + 1) f fd ps sp := by
  obtain ⟨oc, od, kV, doc, pm, an, cdv, ct, osl, rfl, lk, hcd⟩ := F.ex
  refine ⟨fun A outer s H args us vs Q E hr hgd e0 hb r hsp => ?_⟩
  obtain ⟨t, ht0, hq⟩ := hbody cdv A outer s H vs Q E (hr.deeper _) hgd hsp
  have ht := ht0.nox
  have hl := len _ _ _ _ hsp
  have KX : K.In s.heap := e0.mod.kin.keeps fun b o e => (e0.bs b o e).1
  have lim : s.heap.NoLimit := e0.mod.nolimit.keeps fun b o e => (e0.bs b o e).1
  have hkind : ∀ y ∈ ps.zip us, (defScope st).names.lookup y.1 = some .local ∨ ((defScope st).names.lookup y.1 = some .cell ∧ ((cellsFrom (s.heap.objs.size + 1) (defScope st).names []).lookup y.1).isSome = true) := by
    rintro ⟨n, v⟩ hy
    rcases S.par n (List.of_mem_zip hy).1 with q | q
    · exact .inl q
    · exact .inr ⟨q, PySem.W.cellsFrom_some _ _ _ (.inl q)⟩
  refine codeAny_call_function hr.depth (KX _ _ lk) rfl S.co S.gen rfl (PySem.W.codeRec_of KX hcd) (hb _ _ _ _ ?_)
  refine wpAny_newFunctionEnv_cells S.kind hkind fun env he s1 x => ?_
  subst he
  refine ⟨lim.keeps x.toInCall.keep, codeAny_func ?_⟩
  have I := inv_start (CX := CX0) (E := E) S hr.hd e0 hl r x
  refine wpAny_mono (ht.run [] s1 (start N vs) H _ I hq) (fun fl s' hs => ?_) fun e s' hs => hs
  cases fl with
  | ret u =>
    obtain ⟨v, σ', H', J, rv, q⟩ := hs
    exact ⟨v, H', J.os, J.bare, J.base, J.hok, rv, q⟩
  | next =>
    obtain ⟨σ', H', J, q⟩ := hs
    exact ⟨V.non, H', J.os, J.bare, J.base, J.hok, rfl, q⟩
  | brk => obtain ⟨_, _, _, q⟩ := hs; exact q.elim
  | cont => obtain ⟨_, _, _, q⟩ := hs; exact q.elim
theorem law_callG {mb : Str → Option Value} {k : Nat} {fa a : Addr} {fd : FuncData} {x : Str} {sp : Sp} {s₁ : Shared} {vs : List Value} {ns : List Int}
    (KX : K.In s₁.heap) (hns : s₁.heap.Ns mainGlobals mg) (hb : s₁.heap.Ns builtinsNs mb) (hbb : ∀ x : Str, x ≠ "__name__" → mb x = bootBuiltins x) (hlim : s₁.heap.NoLimit) (hg : s₁.gens = #[])
    (ha : s₁.heap.get? a = some { cls := .type "list", data := .seq vs.toArray }) (hi : IntsAre vs ns) (hl : ns.length ≤ sizeLine) (hr : Room k callerA)
    (F : ∀ base : Heap, K.In base → base.Ns mainGlobals mg → FnG P w K mg base k fa fd [x] sp) (hbind : ∀ (s : Shared) (u : Value), BindsTo s fd ⟨[u], []⟩ [(x, u)])
    (hsp : ∀ H : Hp, Only H → SqL K H a (ns.map V.int) → sp [.ref a] H (fun v _ => v = .bl true) fun _ _ _ => False) :
    codeAny (model P w) callerA (.call (.ref fa) ⟨[.ref a], []⟩) (fun r s' => r = .ok (.ret (.bool true)) ∧ OldK s₁.heap s'.heap ∧ s'.os = s₁.os ∧ AllBare s'.gens) s₁ := by
  have rv := vals_ints hi
  have lenV := hi.length
  have core : ∀ H : Hp, Only H → SqL K H a (ns.map V.int) → HOk P w H s₁.heap → (∀ b, H b ≠ none → b = a) → (H a ≠ none → K.lookup a = none) →
      codeAny (model P w) callerA (.call (.ref fa) ⟨[.ref a], []⟩) (fun r s' => r = .ok (.ret (.bool true)) ∧ OldK s₁.heap s'.heap ∧ s'.os = s₁.os ∧ AllBare s'.gens) s₁ := by
    intro H hO hS hok hA hK
    have only : ∀ {b : Addr} {u : HO}, H b = some u → b = a := fun {b u} q => hA b (by rw [q]; exact fun z => nomatch z)
    have nsK : ∀ {b : Addr} {m : Str → Option Value}, s₁.heap.Ns b m → (hidT s₁.heap H).Ns b m := by
      rintro b m ⟨o, es, ep, e, d, r⟩
      refine ⟨o, es, ep, hidT_get e ?_, d, r⟩
      cases q : H b with
      | none => rfl
      | some u =>
        obtain rfl := only q
        rw [ha] at e
        cases e
        exact nomatch (show Data.seq vs.toArray _ = Data.dict es ep from d)
    have hKb : K.In (hidT s₁.heap H) := by
      intro b o e
      refine hidT_get (KX b o e) ?_
      cases q : H b with
      | none => rfl
      | some u =>
        obtain rfl := only q
        rw [hK (by rw [q]; exact fun z => nomatch z)] at e
        cases e
    have hM : Mod K mg (hidT s₁.heap H) := ⟨hKb, nsK hns, ⟨mb, nsK hb, hbb⟩, let ⟨mc, h1, h2⟩ := hlim; ⟨mc, nsK h1, h2⟩⟩
    have e0 : Env0 P w K mg (hidT s₁.heap H) callerA [] s₁ H :=
      ⟨rfl, hM, fun b o e => of_hidT e, Nat.le_of_eq (hidT_size _ _), trivial, fun b hb => absurd (show b ∈ ([] : List Addr) from hb) (by simp), hok, .of_eq hg⟩
    refine codeAny_mono ((F _ hKb (nsK hns)).run callerA [] s₁ H ⟨[.ref a], []⟩ [.ref a] [.ref a] _ _ hr rfl e0 (hbind s₁ (.ref a)) (.cons rfl .nil) (hsp H hO hS)) fun r s' h => ?_
    cases r with
    | error e => exact (show False from h).elim
    | ok fl =>
      cases fl with
      | next => exact False.elim h
      | brk => exact False.elim h
      | cont => exact False.elim h
      | ret u =>
        obtain ⟨v, H', os, bare, un, hok', r', q⟩ := h
        obtain rfl : v = .bl true := q
        obtain rfl : u = Value.bool true := r'
        refine ⟨rfl, OldK.of_keep fun b o e => ?_, os, bare⟩
        cases q : H b with
        | none => exact un.keep b o e q (fun z => absurd (show b ∈ ([] : List Addr) from z) (by simp)) (by simp)
        | some u =>
          rcases hO b with z | ⟨ob, xs, z⟩
          · rw [q] at z; cases z
          · obtain ⟨e1, _⟩ := hok b _ z
            obtain ⟨e2, _⟩ := hok' b _ (un.frzs b ob _ z)
            rw [e] at e1
            cases e1
            exact e2
  cases hk : K.lookup a with
  | some o =>
    have e := KX a o hk
    rw [ha] at e
    cases e
    exact core (fun _ => none) (fun _ => .inl rfl) (.inr ⟨_, vs.toArray, _, hk, rfl, rfl, rfl, by rw [List.size_toArray, lenV]; exact hl, by simpa using rv⟩) (fun b u z => nomatch (show (none : Option HO) = some u from z)) (fun b z => absurd rfl z) fun z => absurd rfl z
  | none =>
    have at_a : (fun b => if b = a then some (HO.frz { cls := .type "list", data := .seq vs.toArray } (.lst (ns.map V.int))) else none) a = some (.frz { cls := .type "list", data := .seq vs.toArray } (.lst (ns.map V.int))) := if_pos rfl
    refine core (fun b => if b = a then some (.frz { cls := .type "list", data := .seq vs.toArray } (.lst (ns.map V.int))) else none) (fun b => ?_) (.inl (.inr ⟨_, at_a⟩)) (fun b u z => ?_) (fun b z => ?_) fun _ => hk
    · by_cases hb : b = a
      · exact .inr ⟨_, _, if_pos hb⟩
      · exact .inl (if_neg hb)
    · by_cases hb : b = a
      · cases (if_pos hb).symm.trans z
        subst hb
        exact ⟨ha, by rw [List.length_map]; exact hl, vs, _, rv, ha⟩
      · cases (if_neg hb).symm.trans z
    · by_cases hb : b = a
      · exact hb
      · exact absurd (if_neg hb) z
end
theorem walk_ofG {l : PySem.W.OpenLaw} {n k : Nat} {q : Program} {loose : List Str} {XP : (Str → Option Value) → Heap → Prop} {YP : World → Heap → Prop} {d : DefRec} {K : Params → PySem.W.Frag} {sp : World → Sp} {x : Str}
    (hn : l.most = some n) (hn2 : n ≤ sizeLine) (hdf : d.params.defaults = []) (hr : Room k callerA) (hY : ∀ (w : World) (h : Heap), YP w h → (K w.params).In h)
    (F : ∀ (w : World) (mg : Str → Option Value) (fa : Addr) (h : Heap), (K w.params).In h → h.Ns mainGlobals mg → mg d.name = some (.ref fa) →
      ∃ fd : FuncData, (∀ (s : Shared) (u : Value), BindsTo s fd ⟨[u], []⟩ [(x, u)]) ∧ ∀ base : Heap, (K w.params).In base → base.Ns mainGlobals mg → FnG l.prog w (K w.params) mg base k fa fd [x] (sp w))
    (hsp : ∀ (w : World) (H : Hp) (a : Addr) (ns : List Int), ns.length ≤ n → Only H → SqL (K w.params) H a (ns.map V.int) → sp w [.ref a] H (fun v _ => v = .bl true) fun _ _ _ => False) :
    PySem.W.WalkO q loose XP YP l.row.toRowW d [] (fun f vs => PySem.call f vs) := by
  refine Att.attach_call hn hdf fun w s₀ s₁ mg mb fa o pm cd doc a vs ns G Y ho hd hcd hmg hobj hints hlen hg => ?_
  have KX := hY w _ Y
  obtain ⟨fd, hb, hF⟩ := F w mg fa _ KX G.T.g hmg
  exact law_callG KX G.T.g G.T.b G.T.builtins G.T.nolimit hg hobj hints (Nat.le_trans hlen hn2) hr hF hb (fun H hO hS => hsp w H a ns hlen hO hS)
end Vx
end L2

set_option Elab.async false
set_option linter.all false
set_option maxRecDepth 100000
set_option maxHeartbeats 4000000
/-! ### values that can be shown: repr of any of them, whatever stands in sys.modules' place -/
namespace PySem
namespace Vr
section
mutual
inductive RdX (h : Heap) : Value → PyData → Prop
  | leaf {v d} (r : Reads h v d []) : RdX h v d
  | list {a o vs n xs} : h.get? a = some o → o.cls = .type "list" → o.data = .seq vs n → RdXAll h vs.toList xs → RdX h (.ref a) (.list xs)
  | tuple {a o vs n xs} : h.get? a = some o → o.cls = .type "tuple" → o.data = .seq vs n → RdXAll h vs.toList xs → RdX h (.ref a) (.tuple xs)
  | dict {a o es n kvs} : h.get? a = some o → o.cls = .type "dict" → o.data = .dict es n → ReadsAll h (es.toList.map (·.key)) (kvs.map (·.1)) [] → ReadsAll h (es.toList.map (·.val)) (kvs.map (·.2)) [] → (a == sysModules) = false → RdX h (.ref a) (.dict kvs)
inductive RdXAll (h : Heap) : List Value → List PyData → Prop
  | nil : RdXAll h [] []
  | cons {v vs d ds} : RdX h v d → RdXAll h vs ds → RdXAll h (v :: vs) (d :: ds)
end
mutual
theorem RdX.reads {h : Heap} : ∀ {v : Value} {d : PyData}, RdX h v d → ∃ as, Reads h v d as
  | _, _, .leaf r => ⟨[], r⟩
  | _, _, .list h1 h2 h3 h4 => let ⟨as, r⟩ := RdXAll.reads h4; ⟨_, .list h1 h2 h3 r⟩
  | _, _, .tuple h1 h2 h3 h4 => let ⟨as, r⟩ := RdXAll.reads h4; ⟨_, .tuple h1 h2 h3 r⟩
  | _, _, .dict h1 h2 h3 h4 h5 _ => ⟨_, .dict h1 h2 h3 h4 h5⟩
theorem RdXAll.reads {h : Heap} : ∀ {vs : List Value} {ds : List PyData}, RdXAll h vs ds → ∃ as, ReadsAll h vs ds as
  | _, _, .nil => ⟨[], .nil⟩
  | _, _, .cons r rs => let ⟨as, q⟩ := RdX.reads r; let ⟨bs, qs⟩ := RdXAll.reads rs; ⟨_, .cons q qs⟩
end
variable {prog : Program} {w : World} {h₀ : Heap}
theorem dict_parts {a : Addr} {o : Obj} {es : Array DictEntry} {n : Nat} {kvs : List (PyData × PyData)} (h1 : h₀.get? a = some o) (h2 : o.cls = .type "dict") (h3 : o.data = .dict es n) (h4 : ReadsAll h₀ (es.toList.map (·.key)) (kvs.map (·.1)) [])
    (h5 : ReadsAll h₀ (es.toList.map (·.val)) (kvs.map (·.2)) []) (hs : PyData.showableKv kvs = true) (hz : (dictText (PyData.shownKv kvs)).length ≤ sizeLine) :
    ∃ bs, a ∉ bs ∧ ReadAtMost h₀ (PyData.depthKv kvs) bs ∧ ReprEntriesK prog w bs h₀ (PyData.depthKv kvs) es.toList (PyData.shownKv kvs) := by
  obtain ⟨s1, s2⟩ := PyData.showableKv_split kvs hs
  have no : sysModules ∉ ([] : List Addr) := fun z => nomatch z
  obtain ⟨b1, g1, k1⟩ := ReprAllK.of_readsAll (prog := prog) (w := w) h4 s1 (fun _ => no) fun t ht => by
    obtain ⟨p, hp, hl⟩ := PyData.shownKv_key_le kvs t ht
    exact Nat.le_trans hl (Nat.le_trans (dictText_mem_le hp) hz)
  obtain ⟨b2, g2, k2⟩ := ReprAllK.of_readsAll (prog := prog) (w := w) h5 s2 (fun _ => no) fun t ht => by
    obtain ⟨p, hp, hl⟩ := PyData.shownKv_val_le kvs t ht
    exact Nat.le_trans hl (Nat.le_trans (dictText_mem_le hp) hz)
  have g : ReadAtMost h₀ (PyData.depthKv kvs) (b1 ++ b2) := (g1.mono (PyData.depthAll_keys_le kvs)).append (g2.mono (PyData.depthAll_vals_le kvs))
  refine ⟨b1 ++ b2, not_mem_of_deeper (.dict h1 h2 h3 h4 h5) (by simp only [PyData.depth]; omega) g, g, ?_⟩
  rw [PyData.shownKv_eq]
  exact ReprEntriesK.of_two es.toList _ _ (k1.more_le (fun b hb => List.mem_append_left _ hb) (PyData.depthAll_keys_le kvs)) (k2.more_le (fun b hb => List.mem_append_right _ hb) (PyData.depthAll_vals_le kvs))
mutual
theorem reprK_of : ∀ {v : Value} {d : PyData}, RdX h₀ v d → d.showable = true → d.shown.length ≤ sizeLine → ∃ bs, ReadAtMost h₀ d.depth bs ∧ ReprK prog w bs h₀ d.depth v d.shown
  | _, _, .leaf r, hs, hz => ReprK.of_reads r hs (fun _ z => nomatch z) hz
  | _, _, .list (a := a) (vs := vs) (xs := xs) h1 h2 h3 h4, hs, hz => by
    simp only [PyData.shown] at hz
    obtain ⟨bs, g, k⟩ := reprAllK_of h4 (by simpa [PyData.showable] using hs) fun t ht => Nat.le_trans (listText_mem_le ht) hz
    obtain ⟨as, r⟩ := RdX.reads (.list h1 h2 h3 h4)
    refine ⟨a :: bs, ReadAtMost.cons r (by simp only [PyData.depth]; omega) g, ?_⟩
    have na : a ∉ bs := not_mem_of_deeper r (by simp only [PyData.depth]; omega) g
    simp only [PyData.depth, PyData.shown]
    obtain ⟨l⟩ := vs
    cases l with
    | nil =>
      cases (show RdXAll h₀ [] xs from h4)
      simp only [PyData.shownAll, listText_nil]
      exact ReprK.listEmpty h1 h2 h3
    | cons x l => exact ReprK.list h1 h2 h3 na (by simpa using k.length_eq) fun i y e => k.item i y (by simpa using e)
  | _, _, .tuple (a := a) (xs := xs) h1 h2 h3 h4, hs, hz => by
    simp only [PyData.shown] at hz
    obtain ⟨bs, g, k⟩ := reprAllK_of h4 (by simpa [PyData.showable] using hs) fun t ht => Nat.le_trans (tupleText_mem_le ht) hz
    obtain ⟨as, r⟩ := RdX.reads (.tuple h1 h2 h3 h4)
    refine ⟨a :: bs, ReadAtMost.cons r (by simp only [PyData.depth]; omega) g, ?_⟩
    simp only [PyData.depth, PyData.shown]
    exact ReprK.tuple h1 h2 h3 (not_mem_of_deeper r (by simp only [PyData.depth]; omega) g) k
  | _, _, .dict (a := a) (kvs := kvs) h1 h2 h3 h4 h5 h6, hs, hz => by
    simp only [PyData.shown] at hz
    obtain ⟨bs, na, g, k⟩ := dict_parts (prog := prog) (w := w) h1 h2 h3 h4 h5 (by simpa [PyData.showable] using hs) hz
    refine ⟨a :: bs, ReadAtMost.cons (.dict h1 h2 h3 h4 h5) (by simp only [PyData.depth]; omega) g, ?_⟩
    simp only [PyData.depth, PyData.shown]
    exact ReprK.dict h1 h2 h3 h6 na k
theorem reprAllK_of : ∀ {vs : List Value} {ds : List PyData}, RdXAll h₀ vs ds → PyData.showableAll ds = true → (∀ t ∈ PyData.shownAll ds, t.length ≤ sizeLine) →
    ∃ bs, ReadAtMost h₀ (PyData.depthAll ds) bs ∧ ReprAllK prog w bs h₀ (PyData.depthAll ds) vs (PyData.shownAll ds)
  | _, _, .nil, _, _ => ⟨[], (fun _ h => nomatch h), by simp only [PyData.shownAll]; exact .nil⟩
  | _, _, .cons (d := d) (ds := ds) r rs, hs, hz => by
    have hs' : d.showable = true ∧ PyData.showableAll ds = true := by simpa [PyData.showableAll] using hs
    obtain ⟨b1, g1, k1⟩ := reprK_of r hs'.1 (hz _ (by simp only [PyData.shownAll]; exact List.mem_cons_self ..))
    obtain ⟨b2, g2, k2⟩ := reprAllK_of rs hs'.2 (fun t ht => hz t (by simp only [PyData.shownAll]; exact List.mem_cons_of_mem _ ht))
    refine ⟨b1 ++ b2, fun b hm => ?_, ?_⟩
    · simp only [PyData.depthAll]
      rcases List.mem_append.mp hm with hm | hm
      · obtain ⟨d', as', r', hd'⟩ := g1 b hm
        exact ⟨d', as', r', Nat.le_trans hd' (Nat.le_max_left _ _)⟩
      · obtain ⟨d', as', r', hd'⟩ := g2 b hm
        exact ⟨d', as', r', Nat.le_trans hd' (Nat.le_max_right _ _)⟩
    · simp only [PyData.depthAll, PyData.shownAll]
      exact .cons ((k1.more fun b hb => List.mem_append_left _ hb).level_le (Nat.le_max_left _ _)) (k2.more_le (fun b hb => List.mem_append_right _ hb) (Nat.le_max_right _ _))
end
/-- repr(v) -/
theorem repr_call {s : Shared} {A : Around} {E : Value → Shared → Prop} {Q : Value → Shared → Prop} {v : Value} {d : PyData} (r : RdX s.heap v d) (hs : d.showable = true) (hz : d.shown.length ≤ sizeLine) (hg : A.guards = some []) (hu : A.units + (d.depth + 1) < cLine)
    (hQ : ∀ h' u tk, (∀ b o, s.heap.get? b = some o → h'.get? b = some o) → Q (.str d.shown u) { s with heap := h', toks := tk }) : wpAny (model prog w) A (call (.builtin "repr") [v]) Q E s := by
  have hu' : A.in1.units + d.depth < cLine := by
    show A.units + 1 + d.depth < cLine
    omega
  have keep : ∀ b o, s.heap.get? b = some o → s.heap.get? b = some o := fun _ _ e => e
  cases r with
  | leaf r =>
    cases r with
    | none => simp only [PyData.shown] at hQ; exact P.repr_of_none (hQ s.heap _ _ keep)
    | bool b => simp only [PyData.shown] at hQ; exact P.repr_of_bool (hQ s.heap _ _ keep)
    | int i t => simp only [PyData.shown] at hQ; exact P.repr_of_int (by simpa [PyData.showable] using hs) (hQ s.heap _ _ keep)
    | str x t => simp only [PyData.shown] at hQ hz; exact P.repr_of_str (hQ s.heap _ _ keep) hz
    | tuple h1 h2 h3 h4 => exact repr_of_reads' (.tuple h1 h2 h3 h4) hs (fun _ z => nomatch z) hg hu keep (fun h' u tk k => hQ h' u tk k) hz
  | list h1 h2 h3 h4 =>
    rename_i a o vs n xs
    obtain ⟨as, r⟩ := RdX.reads (.list h1 h2 h3 h4)
    simp only [PyData.shown] at hQ hz
    obtain ⟨bs, g, k⟩ := reprAllK_of (prog := prog) (w := w) h4 (by simpa [PyData.showable] using hs) fun t ht => Nat.le_trans (listText_mem_le ht) hz
    have na : a ∉ bs := not_mem_of_deeper r (by simp only [PyData.depth]; omega) g
    simp only [PyData.depth] at hu'
    refine call_repr_slot (T := "list") (idr := "list.__repr__") (by omega) ⟨o, h1, h2⟩ F.slot_list_repr.toG ?_
    obtain ⟨l⟩ := vs
    cases l with
    | nil =>
      cases (show RdXAll s.heap [] xs from h4)
      simp only [PyData.shownAll, listText_nil] at hQ
      exact call_list_repr_empty ⟨o, h1, h2⟩ h1 h3 ⟨_, _, rfl, hQ s.heap _ _ keep⟩
    | cons x l => exact call_list_reprK h1 h2 h3 na (by simpa using k.length_eq) (fun i y e => k.item i y (by simpa using e)) hg (fun b _ => Clear.nil b) hu' keep (fun h' u tk kk => ⟨_, _, rfl, hQ h' u tk kk⟩) hz
  | tuple h1 h2 h3 h4 =>
    rename_i a o vs n xs
    obtain ⟨as, r⟩ := RdX.reads (.tuple h1 h2 h3 h4)
    simp only [PyData.shown] at hQ hz
    obtain ⟨bs, g, k⟩ := reprAllK_of (prog := prog) (w := w) h4 (by simpa [PyData.showable] using hs) fun t ht => Nat.le_trans (tupleText_mem_le ht) hz
    have na : a ∉ bs := not_mem_of_deeper r (by simp only [PyData.depth]; omega) g
    simp only [PyData.depth] at hu'
    exact call_repr_slot (T := "tuple") (idr := "tuple.__repr__") (by omega) ⟨o, h1, h2⟩ F.slot_tuple_repr
      (call_tuple_reprK h1 h2 h3 na k hg (fun b _ => Clear.nil b) hu' keep (fun h' u tk kk => ⟨_, _, rfl, hQ h' u tk kk⟩) hz)
  | dict h1 h2 h3 h4 h5 h6 =>
    simp only [PyData.shown] at hQ hz
    obtain ⟨bs, na, g, k⟩ := dict_parts (prog := prog) (w := w) h1 h2 h3 h4 h5 (by simpa [PyData.showable] using hs) hz
    simp only [PyData.depth] at hu'
    exact call_repr_slot (T := "dict") (idr := "dict.__repr__") (by omega) ⟨_, h1, h2⟩ F.slot_dict_repr
      (call_dict_reprK h1 h2 h3 h6 na k hg (fun b _ => Clear.nil b) hu' keep (fun h' u tk kk => ⟨_, _, rfl, hQ h' u tk kk⟩) hz)
end
end Vr
end PySem

set_option Elab.async false
set_option linter.all false
set_option maxRecDepth 100000
set_option maxHeartbeats 4000000
namespace L2
namespace Vx
open PySem PySem.Spec PyProof.Rows PySem.Vr
/-! ### values as data: trees of lists and tuples over flat things; a dict holds flat things alone; S: where they may stand -/
def FlatD : V → PyData → Prop
  | .non, d => d = .none
  | .bl b, d => d = .bool b
  | .int i, d => d = .int i
  | .str x, d => d = .str x
  | _, _ => False
def kD : Key → PyData
  | .inl i => .int i
  | .inr x => .str x
inductive FlatP : List (Key × V) → List (PyData × PyData) → Prop
  | nil : FlatP [] []
  | cons {k : Key} {v : V} {d : PyData} {r : List (Key × V)} {ds : List (PyData × PyData)} : FlatD v d → FlatP r ds → FlatP ((k, v) :: r) ((kD k, d) :: ds)
section
mutual
inductive Dt (H : Hp) (S : Addr → Prop) : V → PyData → Prop
  | flat {v d} : FlatD v d → Dt H S v d
  | lst {a xs ds} : H a = some (.lst xs) → S a → DtAll H S xs ds → Dt H S (.ref a) (.list ds)
  | tup {a xs ds} : H a = some (.tup xs) → S a → DtAll H S xs ds → Dt H S (.ref a) (.tuple ds)
  | dct {a kvs ds} : H a = some (.dK kvs) → S a → FlatP kvs ds → Dt H S (.ref a) (.dict ds)
inductive DtAll (H : Hp) (S : Addr → Prop) : List V → List PyData → Prop
  | nil : DtAll H S [] []
  | cons {v vs d ds} : Dt H S v d → DtAll H S vs ds → DtAll H S (v :: vs) (d :: ds)
end
mutual
theorem Dt.mono {H H' : Hp} {S S' : Addr → Prop} (k : ∀ a o, S a → H a = some o → H' a = some o) (ks : ∀ a o, S a → H a = some o → S' a) : ∀ {v : V} {d : PyData}, Dt H S v d → Dt H' S' v d
  | _, _, .flat h => .flat h
  | _, _, .lst h s r => .lst (k _ _ s h) (ks _ _ s h) (DtAll.mono k ks r)
  | _, _, .tup h s r => .tup (k _ _ s h) (ks _ _ s h) (DtAll.mono k ks r)
  | _, _, .dct h s r => .dct (k _ _ s h) (ks _ _ s h) r
theorem DtAll.mono {H H' : Hp} {S S' : Addr → Prop} (k : ∀ a o, S a → H a = some o → H' a = some o) (ks : ∀ a o, S a → H a = some o → S' a) : ∀ {vs : List V} {ds : List PyData}, DtAll H S vs ds → DtAll H' S' vs ds
  | _, _, .nil => .nil
  | _, _, .cons h r => .cons (Dt.mono k ks h) (DtAll.mono k ks r)
end
theorem DtAll.append {H : Hp} {S : Addr → Prop} : ∀ {vs ws : List V} {ds es : List PyData}, DtAll H S vs ds → DtAll H S ws es → DtAll H S (vs ++ ws) (ds ++ es)
  | _, _, _, _, .nil, r => r
  | _, _, _, _, .cons h t, r => .cons h (DtAll.append t r)
theorem FlatD.reads {h : Heap} {v : V} {u : Value} {d : PyData} (f : FlatD v d) (r : RelV v u) : Reads h u d [] := by
  cases v with
  | non => cases (show d = .none from f); cases (show u = Value.none from r); exact .none
  | bl b => cases (show d = .bool b from f); cases (show u = Value.bool b from r); exact .bool b
  | int i => cases (show d = .int i from f); obtain ⟨t, rfl⟩ := (show ∃ t, u = Value.int i t from r); exact .int i t
  | str x => cases (show d = .str x from f); obtain ⟨t, rfl⟩ := (show ∃ t, u = Value.str x t from r); exact .str x t
  | byt b => exact (show False from f).elim
  | flt b => exact (show False from f).elim
  | ref b => exact (show False from f).elim
  | ty b => exact (show False from f).elim
theorem readsAll_cons0 {h : Heap} {v : Value} {vs : List Value} {d : PyData} {ds : List PyData} (a : Reads h v d []) (b : ReadsAll h vs ds []) : ReadsAll h (v :: vs) (d :: ds) [] := .cons (as := []) (bs := []) a b
theorem flatP_reads {P : Program} {w : World} {h : Heap} : ∀ {kvs : List (Key × V)} {ds : List (PyData × PyData)} {vs : List (Key × Value)} {es : List DictEntry}, FlatP kvs ds → KV kvs vs → Pairs (mixKind P w) es vs →
    ReadsAll h (es.map (·.key)) (ds.map (·.1)) [] ∧ ReadsAll h (es.map (·.val)) (ds.map (·.2)) []
  | _, _, _, _, .nil, .nil, .nil => ⟨.nil, .nil⟩
  | _, _, _, _, .cons (k := k) f fr, .cons ⟨ek, rv⟩ rr, .cons (e := e0) hk hv hp => by
    obtain ⟨i1, i2⟩ := flatP_reads fr rr hp
    refine ⟨readsAll_cons0 ?_ i1, readsAll_cons0 ?_ i2⟩
    · have hk' : keyIs k e0.key = true := by rw [show k = _ from ek]; exact hk
      rcases keyIs_shape hk' with ⟨i, t, rfl, e⟩ | ⟨x, t, rfl, e⟩
      · show Reads h e0.key (.int i) []
        rw [e]
        exact .int i t
      · show Reads h e0.key (.str x) []
        rw [e]
        exact .str x t
    · exact f.reads (show RelV _ e0.val by rw [hv]; exact rv)
end
section
variable {X : Cx} {pins : List (Addr × Obj)} {σ : L2.St} {H : Hp} {s : Shared} {S : Addr → Prop}
mutual
theorem Dt.rd (I : Inv X pins σ H s) : ∀ {v : V} {d : PyData}, Dt H S v d → ∀ {u : Value}, RelV v u → RdX s.heap u d
  | _, _, .flat f, u, r => .leaf (f.reads r)
  | _, _, .lst (a := a) (xs := xs) h _ q, u, r => by
    cases (show u = Value.ref a from r)
    obtain ⟨_, its, n, rv, e⟩ := (show ObjOk X.prog X.w H s.heap a (.lst xs) from I.hok a _ h)
    exact .list e rfl rfl (DtAll.rd I q rv)
  | _, _, .tup (a := a) (xs := xs) h _ q, u, r => by
    cases (show u = Value.ref a from r)
    obtain ⟨_, its, rv, o, e, c, n, dt⟩ := (show ObjOk X.prog X.w H s.heap a (.tup xs) from I.hok a _ h)
    exact .tuple e c dt (DtAll.rd I q rv)
  | _, _, .dct (a := a) (kvs := kvs) h _ q, u, r => by
    cases (show u = Value.ref a from r)
    obtain ⟨_, hm, vs, rel, o, es, ep, e, hx, hd, _, hp, _⟩ := (show ObjOk X.prog X.w H s.heap a (.dK kvs) from I.hok a _ h)
    obtain ⟨i1, i2⟩ := flatP_reads (h := s.heap) q rel hp
    exact .dict e hx.1 hd i1 i2 hm
theorem DtAll.rd (I : Inv X pins σ H s) : ∀ {vs : List V} {ds : List PyData}, DtAll H S vs ds → ∀ {us : List Value}, Vals vs us → RdXAll s.heap us ds
  | _, _, .nil, _, .nil => .nil
  | _, _, .cons h q, _, .cons r rr => .cons (Dt.rd I h r) (DtAll.rd I q rr)
end
/-- a datum that repr can show -/
structure Shows (d : PyData) : Prop where
  sh : d.showable = true
  len : d.shown.length ≤ 1000000
  dep : d.depth ≤ 60
def rRep (S : Addr → Prop) : List V → Hp → VK → Prop := fun xs H Q => ∃ v d, xs = [v] ∧ Dt H S v d ∧ Shows d ∧ Q (.str d.shown) H
theorem call_rep (hg : X.A.guards = some []) (hu : X.A.units + 100 < cLine) (S : Addr → Prop) : CallR X (.builtin "repr") (rRep S) := by
  intro pins s σ H xs us Q I r h
  obtain ⟨v, d, rfl, hd, z, q⟩ := h
  cases r with
  | cons rv rn =>
    cases rn
    have hl : d.shown.length ≤ sizeLine := Nat.le_trans z.len (by rw [sizeLine_eq]; decide)
    have hdp := z.dep
    exact repr_call (hd.rd I rv) z.sh hl hg (by omega) fun h' u tk k => ⟨.str d.shown, H, I.kept (t' := tk) k, ⟨_, rfl⟩, q⟩
end
end Vx
end L2

set_option Elab.async false
set_option linter.all false
set_option maxRecDepth 100000
set_option maxHeartbeats 4000000
namespace Vs
open PySem PySem.Spec PySem.Builtin PySem.Builtin.Str PyProof.Rows L2
/-! ### what is left of a text when all signs of another one are taken off its ends -/
theorem sub_size (x : Str) (lo hi : Nat) (h : hi ≤ x.length) : (strSub x lo hi).length = hi - lo := by
  show (x.cps.extract lo hi).size = hi - lo
  have : x.length = x.cps.size := rfl
  rw [Array.size_extract]
  omega
theorem strip_none (x a : Str) : (Txt.stripChars x a).length = 0 ↔ ∀ c ∈ x.cps.toList, c ∈ a.cps.toList := by
  have hn : x.cps.toList.length = x.length := by simp [Str.length]
  obtain ⟨h0, h1, h2⟩ := lo_facts a.cps.contains x
  obtain ⟨g0, g1, g2, _⟩ := hi_facts a.cps.contains x _ h0
  have e : (Txt.stripChars x a).length = stripHi a.cps.contains true x (stripLo a.cps.contains true x) - stripLo a.cps.contains true x := by
    unfold Txt.stripChars
    rw [stripBy_eq, sub_size _ _ _ g1]
  rw [e]
  have key : ∀ k, k < x.length → (x.cps.getD k 0 ∈ x.cps.toList) := fun k hk => by
    rw [← getD_list]
    have hk' : k < x.cps.toList.length := hn.symm ▸ hk
    rw [List.getD_eq_getElem?_getD, List.getElem?_eq_getElem hk']
    exact List.getElem_mem hk'
  constructor
  · intro z c hc
    obtain ⟨k, hk, rfl⟩ := List.mem_iff_getElem.mp hc
    have hg : a.cps.contains (x.cps.getD k 0) = true := by
      by_cases hlt : k < stripLo a.cps.contains true x
      · exact h1 k hlt
      · exact g2 k (by omega) (hn ▸ hk)
    rw [← getD_list, List.getD_eq_getElem?_getD, List.getElem?_eq_getElem hk] at hg
    simpa using hg
  · intro z
    have all : ∀ k, k < x.length → a.cps.contains (x.cps.getD k 0) = true := fun k hk => by
      have := z _ (key k hk)
      simpa using this
    rcases h2 with h | h
    · omega
    · by_cases hl : stripLo a.cps.contains true x < x.length
      · rw [all _ hl] at h
        cases h
      · omega
theorem strip_dec (x a : Str) : decide (V.str (Txt.stripChars x a) = V.str "") = x.cps.toList.all fun c => decide (c ∈ a.cps.toList) := by
  have h := strip_none x a
  by_cases z : ∀ c ∈ x.cps.toList, c ∈ a.cps.toList
  · have e : (Txt.stripChars x a) = "" := by
      have := h.mpr z
      revert this
      generalize Txt.stripChars x a = y
      intro this
      obtain ⟨l⟩ := y
      have : l = #[] := Array.eq_empty_of_size_eq_zero this
      subst this
      rfl
    rw [e, decide_eq_true rfl, eq_comm, List.all_eq_true]
    exact fun c hc => decide_eq_true (z c hc)
  · have e : ¬ V.str (Txt.stripChars x a) = V.str "" := fun q => z (h.mp (by
      have : Txt.stripChars x a = "" := V.str.inj q
      rw [this]
      rfl))
    rw [decide_eq_false e, eq_comm, List.all_eq_false]
    obtain ⟨c, hc⟩ := Classical.not_forall.mp z
    obtain ⟨hc1, hc2⟩ := Classical.not_imp.mp hc
    exact ⟨c, hc1, by simpa using hc2⟩
end Vs

set_option Elab.async false
set_option linter.all false
set_option maxRecDepth 100000
set_option maxHeartbeats 4000000
namespace Vf
open PySem PySem.Spec PyProof.Rows L2
/-! ### the text by places -/
def top (i : Nat) : Stmt := PySem.Challenge.pw_piecesseen_k02_letters_and_texts_of_any.main.body.getD i (.Pass ⟨0, 0, 0, 0⟩)
abbrev sDeck : Stmt := top 6
abbrev sDraw : Stmt := top 7
abbrev sPick : Stmt := top 8
/-! ### the deck: what holds of it between draws -/
theorem same_new {H : Hp} {p : Addr} (h : H p = none) (o : HO) : Same H (upd H p o) := fun b u q => by rw [upd_ne (ne_of_none q h)]; exact q
/-- a deck at d, its digits at g -/
def DeckAt (H : Hp) (d g : Addr) : Prop := ∃ (ns : List Int) (m n : Int), H d = some (.lst [.ref g, .int m, .int n]) ∧ H g = some (.lst (ns.map V.int)) ∧ ns.length ≤ 63 ∧ d ≠ g
/-- all that was tracked stands, but for d and g -/
def Keeps (d g : Addr) (H H' : Hp) : Prop := ∀ b o, b ≠ d → b ≠ g → H b = some o → H' b = some o
theorem Keeps.refl (d g : Addr) (H : Hp) : Keeps d g H H := fun _ _ _ _ h => h
theorem Keeps.trans {d g : Addr} {H H1 H2 : Hp} (a : Keeps d g H H1) (b : Keeps d g H1 H2) : Keeps d g H H2 := fun c o n1 n2 h => b c o n1 n2 (a c o n1 n2 h)
theorem Keeps.of {d g : Addr} {H H' : Hp} (s : Same H H') : Keeps d g H H' := fun b o _ _ h => s b o h
theorem Keeps.upd_d {d g : Addr} {H H' : Hp} (k : Keeps d g H H') (o : HO) : Keeps d g H (upd H' d o) := fun b u n1 n2 h => by rw [upd_ne n1]; exact k b u n1 n2 h
theorem Keeps.upd_g {d g : Addr} {H H' : Hp} (k : Keeps d g H H') (o : HO) : Keeps d g H (upd H' g o) := fun b u n1 n2 h => by rw [upd_ne n2]; exact k b u n1 n2 h
theorem DeckAt.same {H H' : Hp} {d g : Addr} (h : DeckAt H d g) (s : Same H H') : DeckAt H' d g := by
  obtain ⟨ns, m, n, h1, h2, h3, h4⟩ := h
  exact ⟨ns, m, n, s _ _ h1, s _ _ h2, h3, h4⟩
theorem DeckAt.dn {H : Hp} {d g p : Addr} (h : DeckAt H d g) (hp : H p = none) : p ≠ d ∧ p ≠ g := by
  obtain ⟨ns, m, n, h1, h2, _⟩ := h
  exact ⟨(ne_of_none h1 hp).symm, (ne_of_none h2 hp).symm⟩
/-! ### promises -/
def spDeck (K : PySem.W.Frag) : Sp := fun vs H Q _ => ∃ (a : Addr) (ns : List Int), vs = [.ref a] ∧ SqL K H a (ns.map V.int) ∧ ns.length ≤ 63 ∧
  ∀ (d g : Addr) (H' : Hp), Same H H' → H d = none → H g = none → DeckAt H' d g → Q (.ref d) H'
def spDraw : Sp := fun vs H Q _ => ∃ (d g : Addr) (b : Int), vs = [.ref d, .int b] ∧ 0 < b ∧ b < 1073741824 ∧ DeckAt H d g ∧
  ∀ (r : Int) (H' : Hp), 0 ≤ r → r < b → DeckAt H' d g → Keeps d g H H' → Q (.int r) H'
def spPick (K : PySem.W.Frag) : Sp := fun vs H Q _ => ∃ (d g p : Addr) (xs : List V), vs = [.ref d, .ref p] ∧ (SqL K H p xs) ∧ p ≠ d ∧ p ≠ g ∧ xs ≠ [] ∧ xs.length < 1000000 ∧ DeckAt H d g ∧
  ∀ (x : V) (H' : Hp), x ∈ xs → DeckAt H' d g → Keeps d g H H' → Q x H'
/-- what the top leaves of the names that these defs use -/
structure TxtD (mg : Str → Option Value) (fW : Addr) : Prop where
  list : mg "list" = none
  int : mg "int" = none
  len : mg "len" = none
  draw : mg "_law_draw" = some (.ref fW)
section
variable {P : Program} {w : World} {K : PySem.W.Frag} {mg : Str → Option Value} {base : Heap}
theorem scDeck : FnScope ["_law_script", "_law_digits", "_law_mixed", "_law_cell"] ["_law_script"] (defScope sDeck) := ⟨rfl, rfl, rfl, by decide +kernel, rfl, by decide +kernel, by decide +kernel⟩
theorem int_at {ns : List Int} {i : Nat} {y : V} (h : (ns.map V.int)[i]? = some y) : ∃ z : Int, ns[i]? = some z ∧ y = .int z := by
  rw [List.getElem?_map] at h
  cases e : ns[i]? with
  | none => rw [e] at h; cases h
  | some z => rw [e] at h; exact ⟨z, rfl, (Option.some.inj h).symm⟩
theorem cut63 {xs : List V} (h : xs.length ≤ 63) : cutV xs none (some 63) = xs := by
  unfold cutV
  have e1 : HT.sIx xs.length 0 none = 0 := rfl
  have e2 : HT.sIx xs.length xs.length (some 63) = min 63 xs.length := HT.sIx_nat _ _ 63
  rw [e1, e2, List.drop_zero]
  exact List.take_of_length_le (by omega)
theorem ok_deck {f : Addr} {fd : FuncData} {fW : Addr} (F : Fun K "_law_deck" "_law_deck" sDeck f fd) (T : TxtD mg fW) : FnOk P w K mg base CX0 1 f fd ["_law_script"] (spDeck K) := by
  refine F.ok scDeck (fun vs H Q E h => ?_) (fun cdv A outer s H vs Q E hr h => ?_)
  · obtain ⟨a, ns, rfl, _⟩ := h
    rfl
  obtain ⟨a, ns, rfl, hS, h63, k⟩ := h
  refine ⟨_, pss_cons (ps_par (i := 1) (j := 2) rfl scDeck.nd rfl rfl (by decide) rfl rfl (pa_cons (pe_callTy call_list_of (by rfl) T.list (by decide +kernel) (pa_cons (pe_slice sl_list (pv 0) po_none (po_some pe_int)) pa_nil)) (pa_cons pe_int pa_nil)) (by rfl))
    (pss_cons (ps_for PassesOwn.never rfl (pi_list (pv 1)) (pg_name (i := 3) scDeck.nd rfl (Or.inl rfl))
      (pss_one (ps_set (i := 2) scDeck.nd rfl (Or.inl rfl) (pe_op op_mod (pe_callTy call_int1 (by rfl) T.int (by decide +kernel) (pa_cons (pe_op op_add (pe_op op_add (pe_op op_mul (pv 2) pe_int) (pe_op op_mod (pe_callTy call_int1 (by rfl) T.int (by decide +kernel) (pa_cons (pv 3) pa_nil)) pe_int)) pe_int) pa_nil)) pe_int))))
    (pss_one (ps_ret (pe_lst (pa_cons (pe_revL (pv 1)) (pa_cons (pv 2) (pa_cons pe_int pa_nil))))))), ?_⟩
  have hlm : (ns.map V.int).length = ns.length := List.length_map _
  refine ⟨_, rfl, _, rfl, a, _, rfl, hS, fun p hp => ?_⟩
  rw [cut63 (by rw [hlm]; exact h63)]
  refine ⟨p, _, rfl, .inl (SqL.of upd_same), fun l hl => ?_⟩
  refine ⟨_, _, rfl, ?_⟩
  have s1 : Same H (upd (upd H p (.lst (ns.map V.int))) l (.lst (ns.map V.int))) := (same_new hp _).trans (same_new hl _)
  have hl0 : H l = none := (same_new hp _).free hl
  refine ⟨_, rfl, l, rfl, ⟨_, SqL.of upd_same⟩, for_list (K := K) (a := l) (xs := ns.map V.int) (fun i σ H' => ∃ (m : Int) (v : Option V), σ = [some (.ref a), some (.ref l), some (.int m), v] ∧ -4294967296 < m ∧ m < 4294967296 ∧ H' = upd (upd H p (.lst (ns.map V.int))) l (.lst (ns.map V.int)))
    ⟨_, none, rfl, by decide, by decide, rfl⟩ (fun i σ H' _ ⟨_, _, _, _, _, e⟩ => e ▸ SqL.of upd_same) ?_ ?_⟩
  · rintro i y σ H' hi ⟨m, v, rfl, hm0, hm1, rfl⟩
    obtain ⟨z, _, rfl⟩ := int_at hi
    refine ⟨_, rfl, _, _, rfl, rfl, .inr ⟨by decide, by decide⟩, _, rfl, .inl ⟨_, rfl, _, _, rfl, rfl, (by show (0 : Int) < _; decide), _, _, rfl, rfl, _, _, rfl, rfl, .inl ⟨_, rfl, _, _, rfl, rfl, (by show (0 : Int) < _; decide), ?_⟩⟩⟩
    refine ⟨_, some (.int z), rfl, ?_, ?_, rfl⟩
    · exact Int.lt_of_lt_of_le (by decide) (Int.emod_nonneg _ (by decide))
    · exact Int.lt_trans (Int.emod_lt_of_pos _ (by decide)) (by decide)
  · rintro σ H' ⟨m, v, rfl, hm0, hm1, rfl⟩
    refine ⟨_, rfl, l, _, rfl, SqL.of upd_same, fun g hg => ?_⟩
    refine ⟨_, rfl, (by show 3 ≤ sizeLine; decide), fun d hd => ?_⟩
    have s2 : Same H (upd (upd (upd H p (.lst (ns.map V.int))) l (.lst (ns.map V.int))) g (.lst (ns.map V.int).reverse)) := s1.trans (same_new hg _)
    refine k d g _ (s2.trans (same_new hd _)) (s2.free hd) (s1.free hg) ⟨ns.reverse, m, 0, upd_same, ?_, by rw [List.length_reverse]; exact h63, (ne_of_none upd_same hd).symm⟩
    rw [upd_ne (ne_of_none upd_same hd), upd_same, List.map_reverse]
/-! ### a draw -/
theorem scDraw : FnScope ["_law_deck_here", "_law_below", "_law_mixed", "_law_cell"] ["_law_deck_here", "_law_below"] (defScope sDraw) := ⟨rfl, rfl, rfl, by decide +kernel, rfl, by decide +kernel, by decide +kernel⟩
theorem canLay_ints : ∀ ns : List Int, PyData.canLayAll0 (ns.map .int) = true
  | [] => rfl
  | n :: r => by simp only [List.map, PyData.canLayAll0, PyData.canLay0, canLay_ints r, Bool.and_self]
theorem depth_ints : ∀ ns : List Int, PyData.depthAll (ns.map .int) = 0
  | [] => rfl
  | n :: r => by simp only [List.map, PyData.depthAll, PyData.depth, depth_ints r, Nat.max_self]
theorem shaped_ints (ns : List Int) : SeqAt.shaped (.list (ns.map .int)) = true := by
  simp [SeqAt.shaped, PyData.canLay0, canLay_ints, PyData.depth, depth_ints]
theorem eqv_nil (ns : List Int) : PyData.eqv (.list (ns.map .int)) (.list []) = ns.isEmpty := by
  cases ns <;> simp [PyData.eqv, PyData.eqvAll]
theorem dpAll_ints {H : Hp} : ∀ ns : List Int, DpAll K H (ns.map V.int) (ns.map .int)
  | [] => .nil
  | n :: r => .cons (.int n) (dpAll_ints r)
theorem dp_ints {H : Hp} {a : Addr} {ns : List Int} (h : SqL K H a (ns.map V.int)) : Dp K H (.ref a) (.list (ns.map .int)) := .lst h (dpAll_ints ns)
theorem lst_ne {a b : Addr} {H : Hp} {xs ys : List V} (h : H a = some (.lst xs)) (h' : H b = some (.lst ys)) (e : xs ≠ ys) : a ≠ b := ne_of h h' fun q => e (HO.lst.inj q)
theorem ok_draw {f : Addr} {fd : FuncData} {fW : Addr} (F : Fun K "_law_draw" "_law_draw" sDraw f fd) (T : TxtD mg fW) : FnOk P w K mg base CX0 1 f fd ["_law_deck_here", "_law_below"] spDraw := by
  refine F.ok scDraw (fun vs H Q E h => ?_) (fun cdv A outer s H vs Q E hr h => ?_)
  · obtain ⟨d, g, b, rfl, _⟩ := h
    rfl
  obtain ⟨d, g, b, rfl, hb0, hb1, ⟨ns, m, n, h1, h2, h63, hdg⟩, k⟩ := h
  refine ⟨_, pss_cons (ps_asg (pe_op op_add (pe_ix ix_list (pv 0) pe_int (fun _ _ => rfl)) pe_int) (pg_sub (pv 0) pe_int set_list))
    (pss_cons (ps_set (i := 2) scDraw.nd rfl (Or.inl rfl) (pe_op op_add (pe_ix ix_list (pv 0) pe_int (fun _ _ => rfl)) (pe_op op_mul pe_int (pe_ix ix_list (pv 0) pe_int (fun _ _ => rfl)))))
    (C8.pss_cut (ps_if (pt_cmpR (op_neD hr.units) (pe_ix ix_list (pv 0) pe_int (fun _ _ => rfl)) (pe_lst pa_nil) (nomark _))
        (pss_cons (ps_set (i := 3) scDraw.nd rfl (Or.inl rfl) (pe_bm0 PySem.F.plainAttrs_list PySem.F.slot_list_pop PySem.F.type_list_pop mt_pop (pe_ix ix_list (pv 0) pe_int (fun _ _ => rfl))))
        (pss_cons (ps_if (pt_cmpR op_ge (pv 3) (pe_op op_pow pe_int pe_int) (nomark _))
            (pss_cons (ps_expr (pe_bm PySem.F.plainAttrs_list PySem.F.slot_list_append PySem.F.type_list_append mt_append (pe_ix ix_list (pv 0) pe_int (fun _ _ => rfl)) (pa_cons (pe_op op_fdivN (pv 3) (pv 1)) pa_nil)))
            (pss_one (ps_ret (pe_callTy call_int1 (by rfl) T.int (by decide +kernel) (pa_cons (pe_op op_modN (pv 3) (pv 1)) pa_nil))))) pss_nil)
        (pss_one (ps_set (i := 2) scDraw.nd rfl (Or.inl rfl) (pe_op op_add (pv 2) (pe_op op_mod (pe_callTy call_int1 (by rfl) T.int (by decide +kernel) (pa_cons (pv 3) pa_nil)) pe_int)))))) pss_nil)
    (pss_cons (ps_set (i := 2) scDraw.nd rfl (Or.inl rfl) (pe_op op_mod (pe_callTy call_int1 (by rfl) T.int (by decide +kernel) (pa_cons (pe_op op_add (pe_op op_mul (pv 2) pe_int) pe_int) pa_nil)) pe_int))
    (pss_cons (ps_set (i := 2) scDraw.nd rfl (Or.inl rfl) (pe_op op_mod (pe_callTy call_int1 (by rfl) T.int (by decide +kernel) (pa_cons (pe_op op_add (pe_op op_add (pe_op op_mul (pv 2) (pv 2)) (pe_op op_mul pe_int (pe_ix ix_list (pv 0) pe_int (fun _ _ => rfl)))) pe_int) pa_nil)) pe_int))
    (pss_one (ps_ret (pe_op op_modN (pe_op op_fdiv (pe_op op_mod (pe_op op_mul (pv 2) pe_int) pe_int) pe_int) (pv 1)))))))), ?_⟩
  have t0 : (0 : Int) < 4294967296 := by decide
  -- the third item goes up
  refine ⟨_, rfl, d, _, 2, _, rfl, rfl, SqL.of h1, rfl, _, _, rfl, rfl, _, rfl, d, _, 2, 2, rfl, rfl, h1, rfl, ?_⟩
  have hgd : g ≠ d := hdg.symm
  have e1 : (upd H d (.lst ([V.ref g, V.int m, V.int n].set 2 (V.int (n + 1))))) d = some (.lst [.ref g, .int m, .int (n + 1)]) := upd_same
  have e2 : (upd H d (.lst ([V.ref g, V.int m, V.int n].set 2 (V.int (n + 1))))) g = some (.lst (ns.map V.int)) := by rw [upd_ne hgd]; exact h2
  have kp : Keeps d g H (upd H d (.lst ([V.ref g, V.int m, V.int n].set 2 (V.int (n + 1))))) := (Keeps.refl d g H).upd_d _
  generalize upd H d (.lst ([V.ref g, V.int m, V.int n].set 2 (V.int (n + 1)))) = H1 at e1 e2 kp
  refine ⟨_, rfl, d, _, 1, _, rfl, rfl, SqL.of e1, rfl, _, rfl, d, _, 2, _, rfl, rfl, SqL.of e1, rfl, _, _, rfl, rfl, .inl ⟨by decide, by decide⟩, _, _, rfl, rfl, ?_⟩
  -- what stands behind the if
  refine ⟨fun σ H' => ∃ (x : Int) (v : Option V), σ = [some (.ref d), some (.int b), some (.int x), v] ∧ DeckAt H' d g ∧ Keeps d g H H', ?_, ?_⟩
  · refine ⟨_, rfl, d, _, 0, _, rfl, rfl, SqL.of e1, rfl, Nat.zero_le _, fun p hp => ?_⟩
    have hpd : p ≠ d := (ne_of_none e1 hp).symm
    have hpg : p ≠ g := (ne_of_none e2 hp).symm
    have e3 : upd H1 p (.lst []) d = some (.lst [.ref g, .int m, .int (n + 1)]) := by rw [upd_ne hpd.symm]; exact e1
    have e4 : upd H1 p (.lst []) g = some (.lst (ns.map V.int)) := by rw [upd_ne hpg.symm]; exact e2
    have kp1 : Keeps d g H (upd H1 p (.lst [])) := kp.trans (.of (same_new hp _))
    refine ⟨_, _, dp_ints (SqL.of e4), .lst (SqL.of upd_same) .nil, shaped_ints ns, rfl, _, rfl, ?_⟩
    rw [eqv_nil]
    generalize upd H1 p (.lst []) = H2 at e3 e4 kp1
    rcases List.eq_nil_or_concat ns with rfl | ⟨ms, z, rfl⟩
    · rw [if_neg (by simp)]
      exact ⟨_, none, rfl, ⟨[], m, n + 1, e3, e4, Nat.zero_le _, hdg⟩, kp1⟩
    · rw [if_pos (by simp)]
      rw [List.concat_eq_append, List.map_append] at e4
      rw [List.concat_eq_append] at h63
      have e4' : H2 g = some (.lst (ms.map V.int ++ [V.int z])) := e4
      have hlast : (ms.map V.int ++ [V.int z])[(ms.map V.int ++ [V.int z]).length - 1]? = some (V.int z) := by simp
      have hms : ms.length + 1 ≤ 63 := by rw [List.length_append, List.length_singleton] at h63; exact h63
      refine ⟨_, rfl, d, _, 0, _, rfl, rfl, SqL.of e3, rfl, .inl ⟨rfl, _, SqL.of e4'⟩, g, _, _, rfl, rfl, e4', hlast, ?_⟩
      have e5 : upd H2 g (.lst (ms.map V.int ++ [V.int z]).dropLast) d = some (.lst [.ref g, .int m, .int (n + 1)]) := by rw [upd_ne hdg]; exact e3
      have e6 : upd H2 g (.lst (ms.map V.int ++ [V.int z]).dropLast) g = some (.lst (ms.map V.int)) := by rw [upd_same, List.dropLast_concat]
      have kp3 : Keeps d g H (upd H2 g (.lst (ms.map V.int ++ [V.int z]).dropLast)) := kp1.upd_g _
      generalize upd H2 g (.lst (ms.map V.int ++ [V.int z]).dropLast) = H3 at e5 e6 kp3
      refine ⟨_, rfl, _, _, rfl, rfl, ⟨by decide, by decide, by decide⟩, _, _, rfl, rfl, _, rfl, ?_⟩
      refine ite2 (fun _ => ?_) (fun _ => ?_)
      · refine ⟨_, rfl, d, _, 0, _, rfl, rfl, SqL.of e5, rfl, .inl ⟨rfl, _, SqL.of e6⟩, _, rfl, _, rfl, _, _, rfl, rfl, ⟨by omega, by omega⟩, g, _, _, rfl, rfl, e6, ?_, ?_⟩
        · rw [List.length_map]
          exact small1000 (by omega)
        · refine ⟨_, rfl, _, rfl, _, _, rfl, rfl, (by show b ≠ 0; omega), .inl ⟨_, rfl, ?_⟩⟩
          refine k _ _ (Int.fmod_nonneg_of_pos _ hb0) (Int.fmod_lt_of_pos _ hb0) ⟨ms ++ [z.fdiv b], m, n + 1, ?_, ?_, ?_, hdg⟩ (kp3.upd_g _)
          · rw [upd_ne hdg]; exact e5
          · rw [upd_same, List.map_append]; rfl
          · rw [List.length_append, List.length_singleton]; exact hms
      · refine ⟨_, rfl, _, rfl, .inl ⟨_, rfl, _, _, rfl, rfl, (by show (0 : Int) < _; decide), _, _, rfl, rfl, ?_⟩⟩
        exact ⟨_, _, rfl, ⟨ms, m, n + 1, e5, e6, by omega, hdg⟩, kp3⟩
  · rintro σ H2 ⟨x, v, rfl, ⟨ns', m', n', g1, g2, g63, _⟩, kp2⟩
    have hc : (0 : Int) < 2147483647 := by decide
    refine ⟨_, rfl, _, _, rfl, rfl, .inr ⟨by decide, by decide⟩, _, _, rfl, rfl, .inl ⟨_, rfl, _, _, rfl, rfl, (by show (0 : Int) < _; decide), ?_⟩⟩
    refine ⟨_, rfl, _, rfl, _, _, rfl, rfl, .inl ⟨?b1, ?b2⟩, ?_⟩
    case b1 => exact Int.lt_of_lt_of_le (by decide) (Int.emod_nonneg _ (by decide))
    case b2 => exact Int.lt_trans (Int.emod_lt_of_pos _ (by decide)) (by decide)
    refine ⟨_, rfl, d, _, 2, _, rfl, rfl, SqL.of g1, rfl, _, _, rfl, rfl, .inl ⟨by decide, by decide⟩, _, _, rfl, rfl, _, _, rfl, rfl, .inl ⟨_, rfl, _, _, rfl, rfl, (by show (0 : Int) < _; decide), ?_⟩⟩
    refine ⟨_, rfl, _, _, rfl, rfl, .inr ⟨by decide, by decide⟩, _, _, rfl, rfl, (by show (0 : Int) < _; decide), _, _, rfl, rfl, ⟨by decide, by decide⟩, _, rfl, _, _, rfl, rfl, (by show b ≠ 0; omega), ?_⟩
    have hbb : 0 ≤ b := by omega
    exact k _ H2 (Int.fmod_nonneg_of_pos _ hb0) (Int.fmod_lt_of_pos _ hb0) ⟨ns', m', n', g1, g2, g63, hdg⟩ kp2
/-! ### a pick -/
theorem scPick : FnScope ["_law_deck_here", "_law_some"] ["_law_deck_here", "_law_some"] (defScope sPick) := ⟨rfl, rfl, rfl, by decide +kernel, rfl, by decide +kernel, by decide +kernel⟩
theorem Keeps.seq {d g a : Addr} {H H' : Hp} {xs : List V} (k : Keeps d g H H') (n1 : a ≠ d) (n2 : a ≠ g) (h : SqL K H a xs) : SqL K H' a xs := by
  rcases h with (h | ⟨o, h⟩) | h
  · exact .inl (.inl (k _ _ n1 n2 h))
  · exact .inl (.inr ⟨o, k _ _ n1 n2 h⟩)
  · exact .inr h
theorem ok_pick {f : Addr} {fd : FuncData} {fW : Addr} {fdW : FuncData} (F : Fun K "_law_pick" "_law_pick" sPick f fd) (FW : Fun K "_law_draw" "_law_draw" sDraw fW fdW) (bW : Binds K fdW ["_law_deck_here", "_law_below"] []) (T : TxtD mg fW) : FnOk P w K mg base CX0 2 f fd ["_law_deck_here", "_law_some"] (spPick K) := by
  have GW : FnOk P w K mg base CX0 1 fW fdW ["_law_deck_here", "_law_below"] spDraw := ok_draw FW T
  refine F.ok scPick (fun vs H Q E h => ?_) (fun cdv A outer s H vs Q E hr h => ?_)
  · obtain ⟨d, g, p, xs, rfl, _⟩ := h
    rfl
  obtain ⟨d, g, p, xs, rfl, hS, n1, n2, hne, hlen, hD, k⟩ := h
  refine ⟨_, pss_one (ps_ret (pe_ix ix_list (pv 1) (pe_call GW hr rfl T.draw FW.kp bW .nil pass0 (pa_cons (pv 0) (pa_cons (pe_callB call_len_seq (by rfl) T.len PySem.boot_len (pa_cons (pv 1) pa_nil)) pa_nil))) (fun _ _ => rfl))), ?_⟩
  have hpos : 0 < xs.length := List.length_pos_iff.mpr hne
  refine ⟨_, rfl, _, rfl, _, rfl, p, _, rfl, .inl hS, d, g, _, rfl, by omega, by omega, hD, fun r H' h0 h1 hD' kp => ?_⟩
  have hr : r.toNat < xs.length := by omega
  have er : r = ((r.toNat : Nat) : Int) := by omega
  have hx : atI xs r = some xs[r.toNat] := at_of er (List.getElem?_eq_getElem hr)
  exact ⟨p, _, r, _, rfl, rfl, kp.seq n1 n2 hS, hx, k _ H' (List.getElem_mem hr) hD' kp⟩
end
end Vf

set_option Elab.async false
set_option linter.all false
set_option maxRecDepth 100000
set_option maxHeartbeats 4000000
namespace Vf
open PySem PySem.Spec PyProof.Rows L2 L2.Vx Vs
abbrev sAsc : Stmt := top 1
abbrev sLet : Stmt := top 3
abbrev sText : Stmt := top 4
/-! ### the mathematics -/
abbrev cp (x : Str) : List Nat := x.cps.toList
def stepB (l : List Nat) (i : Nat) : Bool := decide ((l.getD i 0) < l.getD (i + 1) 0)
/-- each sign is less than the next one -/
def rising (l : List Nat) : Bool := (List.range (l.length - 1)).all (stepB l)
def azB (c : Nat) : Bool := decide (97 ≤ c) && decide (c ≤ 122)
def azs (l : List Nat) : Bool := l.all azB
def letB (x : Str) : Bool := decide (1 ≤ x.length) && decide (x.length ≤ 4) && (azs (cp x) && rising (cp x))
def wordB (a x : Str) : Bool := (cp x).all fun c => decide (c ∈ cp a)
theorem lt1 (c d : Nat) : decide (([c] : List Nat) < [d]) = decide (c < d) := by
  by_cases h : c < d
  · rw [decide_eq_true h, decide_eq_true (List.cons_lt_cons_iff.mpr (.inl h))]
  · rw [decide_eq_false h, decide_eq_false fun z => (List.cons_lt_cons_iff.mp z).elim h fun z => absurd z.2 (List.lt_irrefl _)]
/-- a value that is a text y, or no string at all -/
def StrOr (K : PySem.W.Frag) (H : Hp) (v : V) (y : Option Str) : Prop := match y with
  | some x => v = .str x ∧ x.length ≤ 100000 ∧ ∀ c ∈ cp x, c < 128
  | none => ∃ t, TyX K H v t ∧ PySem.W.kitOne K t (.type "str") = some false
theorem cut1 (x : Str) : cp (cutS x (some 1) none) = (cp x).drop 1 := by
  unfold cutS cp
  have e1 : HT.sIx x.length 0 (some 1) = min 1 x.length := HT.sIx_nat _ _ 1
  have e2 : HT.sIx x.length x.length none = x.length := rfl
  have e3 : x.cps.toList.length = x.length := by rw [Array.length_toList]; rfl
  rw [e1, e2]
  show ((x.cps.toList.drop (min 1 x.length)).take (x.length - min 1 x.length)).toArray.toList = _
  rw [List.toList_toArray, List.take_of_length_le (by rw [List.length_drop, e3]; exact Nat.le_refl _)]
  by_cases h : 1 ≤ x.length
  · rw [Nat.min_eq_left h]
  · have z : x.length = 0 := by omega
    rw [z] at e3 ⊢
    rw [List.length_eq_zero_iff.mp e3]
    rfl
theorem sing_at {l : List Nat} {i c : Nat} (h : l[i]? = some c) : l.getD i 0 = c := by rw [List.getD_eq_getElem?_getD, h]; rfl
/-! ### promises -/
def spAsc : Sp := fun vs H Q _ => ∃ x : Str, vs = [.str x] ∧ x.length ≤ 100000 ∧ ∀ H', Same H H' → Q (.bl (rising (cp x))) H'
def spLet (K : PySem.W.Frag) (f : Str → Bool) : Sp := fun vs H Q _ => ∃ v y, vs = [v] ∧ StrOr K H v y ∧ ∀ H', Same H H' → Q (.bl (y.elim false f)) H'
def spText (K : PySem.W.Frag) (f : Str → Str → Bool) : Sp := fun vs H Q _ => ∃ a v y, vs = [.str a, v] ∧ StrOr K H v y ∧ a.length ≤ 4 ∧ ∀ H', Same H H' → Q (.bl (y.elim false (f a))) H'
structure TxtA (mg : Str → Option Value) (fA : Addr) : Prop where
  all : mg "all" = none
  zip : mg "zip" = none
  isi : mg "isinstance" = none
  str : mg "str" = none
  len : mg "len" = none
  asc : mg "is_ascending" = some (.ref fA)
section
variable {P : Program} {w : World} {K : PySem.W.Frag} {mg : Str → Option Value} {base : Heap}
theorem scAsc : FnScope ["things", "one", "other"] ["things"] (defScope sAsc) := ⟨rfl, rfl, rfl, by decide +kernel, rfl, by decide +kernel, by decide +kernel⟩
theorem ok_asc {f fA : Addr} {fd : FuncData} (F : Fun K "is_ascending" "is_ascending" sAsc f fd) (T : TxtA mg fA) : FnOk P w K mg base CX0 1 f fd ["things"] spAsc := by
  refine F.ok scAsc (fun vs H Q E h => ?_) (fun cdv A outer s H vs Q E hr h => ?_)
  · obtain ⟨x, rfl, _⟩ := h
    rfl
  obtain ⟨x, rfl, hx, q⟩ := h
  refine ⟨_, pss_one (ps_ret (pe_callB (cr_all rfl) (by rfl) T.all (by decide +kernel) (pa_cons (pe_lc (own := [("one", 1), ("other", 2)]) (g := gTup K 2 (gCons (gName 1) (gCons (gName 2) gNil))) (tt := tYes) rfl scAsc.nd
      (pi_zipS (by rfl) T.zip (pa_cons (pv 0) (pa_cons (pe_slice sl_str (pv 0) (po_some pe_int) po_none) pa_nil)))
      (blkOk_by (N := ["things", "one", "other"]) (sc := defScope sAsc) (by decide +kernel)) (fun _ _ _ _ _ => pg_tup rfl (pgs_cons (pg_name (i := 1) scAsc.nd rfl (Or.inl rfl)) (pgs_cons (pg_name (i := 2) scAsc.nd rfl (Or.inl rfl)) pgs_nil))) (fun _ _ _ _ _ => pts_nil)
      (fun _ _ _ _ _ => pe_cmpR op_lt_str (pv 1) (pv 2) (nomark _))) pa_nil))), ?_⟩
  have hlen : (cp x).length = x.length := by rw [Array.length_toList]; rfl
  refine ⟨_, rfl, _, rfl, _, rfl, _, rfl, Nat.le_trans hx (by decide), _, _, rfl, fun D hD => ?_⟩
  have hy : ∀ i, (cutS x (some 1) none).cps[i]? = x.cps[1 + i]? := fun i => by
    rw [← Array.getElem?_toList, ← Array.getElem?_toList]
    show (cp (cutS x (some 1) none))[i]? = _
    rw [cut1, List.getElem?_drop]
  have hysz : (cutS x (some 1) none).cps.size = x.length - 1 := by
    have z := congrArg List.length (cut1 x)
    rw [List.length_drop, hlen] at z
    exact z
  refine lc_it (walk_texts (n := x.length - 1) (by rw [hysz]; show x.length - 1 = min x.length (x.length - 1); omega)) (fun i H' => H' D = some (.lst (((List.range i).map (stepB (cp x))).map V.bl)) ∧ Same H H') ⟨upd_same, same_new hD _⟩ (fun _ _ _ _ => trivial) ?_ ?_
  · rintro i v H1 H2 hi ⟨hv, sm⟩ ⟨T, c, d, rfl, hT, rfl, hc, hd⟩
    rw [hy] at hd
    refine ⟨T, _, rfl, SqT.of upd_same, rfl, _, _, rfl, _, _, rfl, rfl, rfl, _, rfl, _, rfl, _, _, rfl, rfl, _, (upd_ne (ne_of_none hv hT)).trans hv, ?_, ?_, ?_⟩
    · rw [List.length_map, List.length_map, List.length_range]
      exact Nat.lt_of_lt_of_le (Nat.lt_of_lt_of_le hi (Nat.le_trans (Nat.sub_le _ _) hx)) (by decide)
    · rw [upd_same, List.range_succ, List.map_append, List.map_append]
      have e : stepB (cp x) i = decide (([c] : List Nat) < [d]) := by
        unfold stepB
        rw [lt1, sing_at (by rw [Array.getElem?_toList]; exact hc), sing_at (l := cp x) (i := i + 1) (c := d) (by rw [Array.getElem?_toList, Nat.add_comm]; exact hd)]
      simp only [List.map_cons, List.map_nil, e]
    · intro b o e
      rw [upd_ne (ne_of_none e hD)]
      exact (sm.trans (same_new hT _)) b o e
  · rintro H1 ⟨hv, sm⟩
    refine ⟨_, _, rfl, SqL.of hv, ?_⟩
    have e : ((List.range (x.length - 1)).map (stepB (cp x))).all id = rising (cp x) := by
      unfold rising
      rw [hlen, List.all_map]
      rfl
    rw [e]
    exact q _ sm
theorem scLet : FnScope ["thing", "sign"] ["thing"] (defScope sLet) := ⟨rfl, rfl, rfl, by decide +kernel, rfl, by decide +kernel, by decide +kernel⟩
/-- what a test of "a text?" asks -/
theorem strOr_ty {H : Hp} {v : V} {y : Option Str} (h : StrOr K H v y) : ∃ t, TyX K H v t ∧ PySem.W.kitOne K t (.type "str") = some y.isSome := by
  cases y with
  | none => exact h
  | some x =>
    obtain ⟨rfl, _⟩ := h
    exact ⟨_, .base (.str _), kit_ty (show kitB "str" "str" = some true by decide +kernel)⟩
theorem az_le (c : Nat) : ((!decide (([c] : List Nat) < [97])) && !decide (([122] : List Nat) < [c])) = (decide (97 ≤ c) && decide (c ≤ 122)) := by
  rw [lt1, lt1]
  by_cases h1 : c < 97 <;> by_cases h2 : 122 < c <;> simp [h1, h2] <;> omega
theorem ok_let {f fA : Addr} {fd fdA : FuncData} (F : Fun K "is_letters" "is_letters" sLet f fd) (GA : FnOk P w K mg base CX0 1 fA fdA ["things"] spAsc) (bA : Binds K fdA ["things"] []) (kA : PySem.W.keepIn K (.ref fA) = true) (T : TxtA mg fA) :
    FnOk P w K mg base CX0 2 f fd ["thing"] (spLet K letB) := by
  refine F.ok scLet (fun vs H Q E h => ?_) (fun cdv A outer s H vs Q E hr h => ?_)
  · obtain ⟨v, y, rfl, _⟩ := h
    rfl
  obtain ⟨v, y, rfl, hv, q⟩ := h
  refine ⟨_, pss_cons (ps_if (PW.pt (pw_or (pt_not (pt_val (pe_callB call_isi (by rfl) T.isi (by decide +kernel) (pa_cons (pv 0) (pa_cons (pe_bltn (v := .ty "str") (u := .type "str") (by rfl) T.str (by decide +kernel) rfl) pa_nil)))))
        (pw_or1 (pt_not (pt_chain op_le op_le pe_int (pe_callB call_len_str (by rfl) T.len PySem.boot_len (pa_cons (pv 0) pa_nil)) pe_int)))))
      (pss_one (ps_ret pe_bl)) pss_nil)
    (pss_one (ps_ret (pe_and (pe_callB (cr_all rfl) (by rfl) T.all (by decide +kernel) (pa_cons (pe_lc (own := [("sign", 1)]) (g := gName 1) (tt := tYes) rfl scLet.nd (pi_str (pv 0))
        (blkOk_by (N := ["thing", "sign"]) (sc := defScope sLet) (by decide +kernel)) (fun _ _ _ _ _ => pg_name (i := 1) scLet.nd rfl (Or.inl rfl)) (fun _ _ _ _ _ => pts_nil)
        (fun _ _ _ _ _ => pe_chain op_le_str op_le_str pe_str (pv 1) pe_str)) pa_nil)) (pe_one (pe_call GA hr rfl T.asc kA bA .nil pass0 (pa_cons (pv 0) pa_nil)))))), ?_⟩
  obtain ⟨t, t1, t2⟩ := strOr_ty hv
  refine ⟨_, rfl, _, _, t, _, _, rfl, .ty _, t1, t2, _, rfl, ?_⟩
  cases y with
  | none => exact q H (Same.refl H)
  | some x =>
    obtain ⟨rfl, hx, _⟩ := hv
    have hlen : (cp x).length = x.length := by rw [Array.length_toList]; rfl
    have hq : ∀ b, letB x = b → ∀ H', Same H H' → Q (.bl b) H' := fun b e H' s => e ▸ q H' s
    have none : ¬ (1 ≤ x.length ∧ x.length ≤ 4) → letB x = false := fun h => by
      unfold letB
      by_cases h1 : 1 ≤ x.length
      · rw [decide_eq_false (p := x.length ≤ 4) fun h2 => h ⟨h1, h2⟩, Bool.and_false, Bool.false_and]
      · rw [decide_eq_false h1, Bool.false_and, Bool.false_and]
    refine ⟨_, rfl, _, rfl, Nat.le_trans hx (by decide), _, _, rfl, rfl, _, rfl, ?_⟩
    refine ite2 (fun h1 => ?_) (fun h1 => ⟨_, rfl, hq _ (none fun z => by simp at h1; omega) H (Same.refl H)⟩)
    have h1' : 1 ≤ x.length := by have := of_decide_eq_true h1; omega
    refine ⟨_, _, rfl, rfl, _, rfl, ?_⟩
    refine ite2 (fun h2 => hq _ (none fun z => by simp at h2; omega) H (Same.refl H)) (fun h2 => ?_)
    have h2' : x.length ≤ 4 := by simp at h2; omega
    refine ⟨_, rfl, _, rfl, fun D hD => ?_⟩
    refine lc_it walk_str (fun i H' => H' D = some (.lst ((((cp x).take i).map azB).map V.bl)) ∧ Same H H') ⟨upd_same, same_new hD _⟩ (fun _ _ _ _ => trivial) ?_ ?_
    · rintro i v H1 H2 hi ⟨hv, sm⟩ ⟨rfl, c, hc, rfl⟩
      have hc' : (cp x)[i]? = some c := by rw [Array.getElem?_toList]; exact hc
      have fin : ∀ b, b = azB c → ∃ acc, H2 D = some (.lst acc) ∧ acc.length < sizeLine ∧ (upd H2 D (.lst (acc ++ [V.bl b])) D = some (.lst ((((cp x).take (i + 1)).map azB).map V.bl)) ∧ Same H (upd H2 D (.lst (acc ++ [V.bl b])))) := fun b e => by
        refine ⟨_, hv, ?_, ?_, fun b' o' e' => ?_⟩
        · rw [List.length_map, List.length_map]
          exact Nat.lt_of_le_of_lt (List.length_take_le' _ _) (by rw [hlen]; exact Nat.lt_of_le_of_lt h2' (by decide))
        · rw [upd_same, List.take_add_one, hc', List.map_append, List.map_append, e]
          rfl
        · rw [upd_ne (ne_of_none e' hD)]
          exact sm b' o' e'
      have az := az_le c
      refine ⟨rfl, _, rfl, _, _, rfl, rfl, _, rfl, ?_⟩
      refine ite2 (fun z1 => ⟨_, _, rfl, rfl, fin _ ?_⟩) (fun z1 => fin _ ?_)
      · have z1' : (!decide (([c] : List Nat) < [97])) = true := z1
        rw [z1', Bool.true_and] at az
        exact az
      · have z1' : (!decide (([c] : List Nat) < [97])) = false := by cases z : (!decide (([c] : List Nat) < [97])) with
          | false => rfl
          | true => exact absurd z z1
        rw [z1', Bool.false_and] at az
        exact az
    · rintro H1 ⟨hv, sm⟩
      refine ⟨D, _, rfl, SqL.of hv, _, rfl, ?_⟩
      have et : ((cp x).take x.cps.size) = cp x := List.take_of_length_le (by rw [hlen]; exact Nat.le_refl _)
      have ea : (((cp x).take x.cps.size).map azB).all id = azs (cp x) := by rw [et, List.all_map]; rfl
      have eL : letB x = (azs (cp x) && rising (cp x)) := by
        unfold letB
        rw [decide_eq_true h1', decide_eq_true h2', Bool.true_and, Bool.true_and]
      rw [ea]
      refine ite2 (fun z => ⟨_, rfl, x, rfl, hx, fun H' s' => hq _ ?_ H' (sm.trans s')⟩) (fun z => hq _ ?_ H1 sm)
      · rw [eL, z, Bool.true_and]
      · rw [eL]
        cases e : azs (cp x) with
        | false => rfl
        | true => exact absurd e z
end
end Vf

set_option Elab.async false
set_option linter.all false
set_option maxRecDepth 100000
set_option maxHeartbeats 4000000
namespace Vf
open PySem PySem.Spec PyProof.Rows L2 L2.Vx Vs
abbrev sAre : Stmt := top 11
abbrev sWord : Stmt := top 12
section
variable {P : Program} {w : World} {K : PySem.W.Frag} {mg : Str → Option Value} {base : Heap}
theorem scText : FnScope ["letters", "thing"] ["letters", "thing"] (defScope sText) := ⟨rfl, rfl, rfl, by decide +kernel, rfl, by decide +kernel, by decide +kernel⟩
theorem ok_text {f fA : Addr} {fd : FuncData} (F : Fun K "is_text" "is_text" sText f fd) (T : TxtA mg fA) :
    FnOk P w K mg base CX0 1 f fd ["letters", "thing"] (spText K wordB) := by
  refine F.ok scText (fun vs H Q E h => ?_) (fun cdv A outer s H vs Q E hr h => ?_)
  · obtain ⟨a, v, y, rfl, _⟩ := h
    rfl
  obtain ⟨a, v, y, rfl, hv, ha, q⟩ := h
  refine ⟨_, pss_one (ps_ret (pe_and (pe_callB call_isi (by rfl) T.isi (by decide +kernel) (pa_cons (pv 1) (pa_cons (pe_bltn (v := .ty "str") (u := .type "str") (by rfl) T.str (by decide +kernel) rfl) pa_nil)))
      (pe_one (pe_cmpR op_eq (pe_bm PySem.F.plainAttrs_str PySem.F.slot_str_strip PySem.F.type_str_strip mt_stripChars (pv 1) (pa_cons (pv 0) pa_nil)) pe_str (nomark _))))), ?_⟩
  obtain ⟨t, t1, t2⟩ := strOr_ty hv
  refine ⟨_, rfl, _, _, t, _, _, rfl, .ty _, t1, t2, _, rfl, ?_⟩
  cases y with
  | none => exact q H (Same.refl H)
  | some x =>
    obtain ⟨rfl, hx, h128⟩ := hv
    refine ⟨_, rfl, rfl, _, rfl, _, _, rfl, rfl, Nat.le_trans hx (by decide), rfl, ?_⟩
    have e : decide (V.str (Txt.stripChars x a) = V.str "") = wordB a x := strip_dec x a
    show Q (.bl (decide (V.str (Txt.stripChars x a) = V.str ""))) H
    rw [e]
    exact q _ (Same.refl H)
theorem scAre : FnScope ["_law_it", "_law_odd", "_law_sign", "_law_k"] ["_law_it"] (defScope sAre) := ⟨rfl, rfl, rfl, by decide +kernel, rfl, by decide +kernel, by decide +kernel⟩
theorem scWord : FnScope ["_law_signs_here", "_law_it", "_law_sign"] ["_law_signs_here", "_law_it"] (defScope sWord) := ⟨rfl, rfl, rfl, by decide +kernel, rfl, by decide +kernel, by decide +kernel⟩
/-! ### lists of data, told empty or not -/
theorem lay_strs : ∀ xs : List Str, (∀ x ∈ xs, PyData.strOk x = true) → PyData.canLayAll0 (xs.map .str) = true
  | [], _ => rfl
  | x :: r, h => by simp only [List.map, PyData.canLayAll0, PyData.canLay0, lay_strs r fun y hy => h y (List.mem_cons_of_mem _ hy), h x (List.mem_cons_self ..), Bool.and_self]
theorem sing_ok {c : Nat} (h : c < 128) : PyData.strOk ⟨#[c]⟩ = true := by
  simp [PyData.strOk]
  omega
theorem deep_strs : ∀ xs : List Str, PyData.depthAll (xs.map .str) = 0
  | [] => rfl
  | x :: r => by simp only [List.map, PyData.depthAll, PyData.depth, deep_strs r, Nat.max_self]
theorem shaped_strs (xs : List Str) (h : ∀ x ∈ xs, PyData.strOk x = true) : SeqAt.shaped (.list (xs.map .str)) = true := by
  simp [SeqAt.shaped, PyData.canLay0, lay_strs xs h, PyData.depth, deep_strs]
theorem eqv_nils (xs : List Str) : PyData.eqv (.list (xs.map .str)) (.list []) = xs.isEmpty := by
  cases xs <;> simp [PyData.eqv, PyData.eqvAll]
theorem dpAll_strs {H : Hp} : ∀ xs : List Str, DpAll K H (xs.map V.str) (xs.map .str)
  | [] => .nil
  | x :: r => .cons (.str x) (dpAll_strs r)
theorem shaped_nil : SeqAt.shaped (.list []) = true := by decide +kernel
theorem filter_all {α : Type} (p : α → Bool) : ∀ l : List α, (l.filter fun c => !p c).isEmpty = l.all p
  | [] => rfl
  | c :: r => by
    rw [List.filter_cons, List.all_cons]
    cases h : p c with
    | true => simp only [Bool.not_true, Bool.false_eq_true, if_false, Bool.true_and]; exact filter_all p r
    | false => simp
theorem in14 (n : Nat) : inV (.int (n : Int)) [.int 1, .int 2, .int 3, .int 4] = decide (1 ≤ n ∧ n ≤ 4) := by
  unfold inV
  simp only [List.any_cons, List.any_nil, eqV, Bool.or_false]
  by_cases h : 1 ≤ n ∧ n ≤ 4
  · rw [decide_eq_true h]
    have : n = 1 ∨ n = 2 ∨ n = 3 ∨ n = 4 := by omega
    rcases this with rfl | rfl | rfl | rfl <;> rfl
  · rw [decide_eq_false h]
    simp
    omega
structure TxtR (mg : Str → Option Value) : Prop where
  isi : mg "isinstance" = none
  str : mg "str" = none
  len : mg "len" = none
  range : mg "range" = none
  list : mg "list" = none
theorem ok_are {f : Addr} {fd : FuncData} (F : Fun K "_law_are_signs" "_law_are_signs" sAre f fd) (T : TxtR mg) : FnOk P w K mg base CX0 1 f fd ["_law_it"] (spLet K letB) := by
  refine F.ok scAre (fun vs H Q E h => ?_) (fun cdv A outer s H vs Q E hr h => ?_)
  · obtain ⟨v, y, rfl, _⟩ := h
    rfl
  obtain ⟨v, y, rfl, hv, q⟩ := h
  refine ⟨_, pss_cons (ps_if (PW.pt (pw_or (pt_not (pt_val (pe_callB call_isi (by rfl) T.isi (by decide +kernel) (pa_cons (pv 0) (pa_cons (pe_bltn (v := .ty "str") (u := .type "str") (by rfl) T.str (by decide +kernel) rfl) pa_nil)))))
        (pw_or1 (pt_cmpR op_notIn_seq (pe_callB call_len_str (by rfl) T.len PySem.boot_len (pa_cons (pv 0) pa_nil)) (pe_tup (pa_cons pe_int (pa_cons pe_int (pa_cons pe_int (pa_cons pe_int pa_nil))))) (by rfl)))))
      (pss_one (ps_ret pe_bl)) pss_nil)
    (pss_cons (ps_setLc (i := 1) (own := [("_law_sign", 2)]) (g := gName 2) rfl scAre.nd rfl rfl (sw_true rfl rfl rfl (by decide +kernel)) (pi_str (pv 0))
        (blkOk_by (N := ["_law_it", "_law_odd", "_law_sign", "_law_k"]) (sc := defScope sAre) (by decide +kernel)) (fun _ _ _ _ _ => pg_name (i := 2) scAre.nd rfl (Or.inl rfl))
        (fun _ _ _ _ _ => by exact pts_one (pt_not (pt_chain op_le_str op_le_str pe_str (pv 2) pe_str))) (fun _ _ _ _ _ => pv 2))
    (pss_one (ps_ret (pe_and (pe_cmpR (op_eqD hr.units) (pv 1) (pe_lst pa_nil) (nomark _)) (pe_one (pe_cmpR (op_eqD hr.units)
      (pe_lc (own := [("_law_k", 3)]) (g := gName 3) rfl scAre.nd (pi_range2 rfl T.range (pa_cons pe_int (pa_cons (pe_callB call_len_str (by rfl) T.len PySem.boot_len (pa_cons (pv 0) pa_nil)) pa_nil)))
        (blkOk_by (N := ["_law_it", "_law_odd", "_law_sign", "_law_k"]) (sc := defScope sAre) (by decide +kernel)) (fun _ _ _ _ _ => pg_name (i := 3) scAre.nd rfl (Or.inl rfl))
        (fun _ _ _ _ _ => by exact pts_one (pt_cmpR op_ge_str (pe_ix ix_str (pv 0) (pe_op op_sub (pv 3) pe_int) (fun _ _ => rfl)) (pe_ix ix_str (pv 0) (pv 3) (fun _ _ => rfl)) (nomark _))) (fun _ _ _ _ _ => pv 3))
      (pe_lst pa_nil) (nomark _))))))), ?_⟩
  obtain ⟨t, t1, t2⟩ := strOr_ty hv
  refine ⟨_, rfl, _, _, t, _, _, rfl, .ty _, t1, t2, _, rfl, ?_⟩
  cases y with
  | none => exact q H (Same.refl H)
  | some x =>
    obtain ⟨rfl, hx, h128⟩ := hv
    have hlen : (cp x).length = x.length := by rw [Array.length_toList]; rfl
    have hq : ∀ b, letB x = b → ∀ H', Same H H' → Q (.bl b) H' := fun b e H' s => e ▸ q H' s
    refine ⟨_, rfl, _, rfl, Nat.le_trans hx (by decide), (by show 4 ≤ sizeLine; decide), fun t ht => ⟨t, _, rfl, .inr (SqT.of upd_same), rfl, rfl, _, rfl, ?_⟩⟩
    have in_eq : (if (true : Bool) = true then !inV (.int (x.length : Int)) [.int 1, .int 2, .int 3, .int 4] else inV (.int (x.length : Int)) [.int 1, .int 2, .int 3, .int 4]) = !decide (1 ≤ x.length ∧ x.length ≤ 4) := by rw [if_pos rfl, in14]
    refine ite2 (fun z => ?_) (fun z => ?_)
    · refine hq _ ?_ _ (same_new ht _)
      have z' : (!decide (1 ≤ x.length ∧ x.length ≤ 4)) = true := in_eq ▸ z
      have z2 : ¬ (1 ≤ x.length ∧ x.length ≤ 4) := by simp at z'; omega
      unfold letB
      by_cases h1 : 1 ≤ x.length
      · rw [decide_eq_false (p := x.length ≤ 4) fun h2 => z2 ⟨h1, h2⟩, Bool.and_false, Bool.false_and]
      · rw [decide_eq_false h1, Bool.false_and, Bool.false_and]
    have z2 : 1 ≤ x.length ∧ x.length ≤ 4 := by
      by_cases g : 1 ≤ x.length ∧ x.length ≤ 4
      · exact g
      · refine absurd ?_ z
        show (if (true : Bool) = true then !inV (.int (x.length : Int)) [.int 1, .int 2, .int 3, .int 4] else inV (.int (x.length : Int)) [.int 1, .int 2, .int 3, .int 4]) = true
        rw [in_eq, decide_eq_false g]
        rfl
    have st := same_new ht (.tup [V.int 1, V.int 2, V.int 3, V.int 4])
    generalize upd H t (.tup [V.int 1, V.int 2, V.int 3, V.int 4]) = H0 at st ⊢
    refine ⟨_, rfl, _, rfl, fun D hD => ?_⟩
    refine lc_it walk_str (fun i H' => H' D = some (.lst ((((cp x).take i).filter fun c => !azB c).map fun c => V.str ⟨#[c]⟩)) ∧ Same H0 H') ⟨upd_same, same_new hD _⟩ (fun _ _ _ _ => trivial) ?_ ?_
    · rintro i v H1 H2 hi ⟨hv, sm⟩ ⟨rfl, c, hc, rfl⟩
      have hc' : (cp x)[i]? = some c := by rw [Array.getElem?_toList]; exact hc
      have az : (!decide (([c] : List Nat) < [97]) && !decide (([122] : List Nat) < [c])) = azB c := az_le c
      have put : azB c = false → ∃ acc, H2 D = some (.lst acc) ∧ acc.length < sizeLine ∧ (upd H2 D (.lst (acc ++ [V.str ⟨#[c]⟩])) D = some (.lst ((((cp x).take (i + 1)).filter fun c => !azB c).map fun c => V.str ⟨#[c]⟩)) ∧ Same H0 (upd H2 D (.lst (acc ++ [V.str ⟨#[c]⟩])))) := fun e => by
        refine ⟨_, hv, ?_, ?_, fun b' o' e' => ?_⟩
        · rw [List.length_map]
          exact Nat.lt_of_le_of_lt (Nat.le_trans (List.length_filter_le _ _) (List.length_take_le' _ _)) (by rw [hlen]; exact Nat.lt_of_le_of_lt z2.2 (by decide))
        · rw [upd_same, List.take_add_one, hc', List.filter_append, List.map_append]
          simp [e]
        · rw [upd_ne (ne_of_none e' hD)]
          exact sm b' o' e'
      have skip : azB c = true → H2 D = some (.lst ((((cp x).take (i + 1)).filter fun c => !azB c).map fun c => V.str ⟨#[c]⟩)) ∧ Same H0 H2 := fun e => by
        refine ⟨?_, sm⟩
        rw [hv, List.take_add_one, hc', List.filter_append]
        simp [e]
      refine ⟨rfl, _, rfl, _, _, rfl, rfl, _, rfl, ?_⟩
      refine ite2 (fun z1 => ⟨_, _, rfl, rfl, _, rfl, ?_⟩) (fun z1 => ⟨_, rfl, _, rfl, put ?_⟩)
      · have z1' : (!decide (([c] : List Nat) < [97])) = true := z1
        rw [z1', Bool.true_and] at az
        refine ite2 (fun z2 => ⟨_, rfl, put ?_⟩) (fun z2 => skip ?_)
        · rw [← az]
          have z3 : (!!decide (([122] : List Nat) < [c])) = true := z2
          cases e : decide (([122] : List Nat) < [c]) with
          | true => rfl
          | false => rw [e] at z3; exact nomatch z3
        · rw [← az]
          cases e : decide (([122] : List Nat) < [c]) with
          | false => rfl
          | true => exact absurd (show (!!decide (([122] : List Nat) < [c])) = true by rw [e]; rfl) z2
      · cases e : (!decide (([c] : List Nat) < [97])) with
        | true => exact absurd e z1
        | false =>
          rw [e, Bool.false_and] at az
          exact az.symm
    · rintro H1 ⟨hv, sm⟩
      have et : ((cp x).take x.cps.size) = cp x := List.take_of_length_le (by rw [hlen]; exact Nat.le_refl _)
      rw [et] at hv
      have hv' : H1 D = some (.lst ((((cp x).filter fun c => !azB c).map fun c => (⟨#[c]⟩ : Str)).map V.str)) := by rw [hv, List.map_map]; rfl
      have ok1 : ∀ y ∈ ((cp x).filter fun c => !azB c).map fun c => (⟨#[c]⟩ : Str), PyData.strOk y = true := fun y hy => by
        obtain ⟨c, hc, rfl⟩ := List.mem_map.mp hy
        exact sing_ok (h128 c (List.mem_filter.mp hc).1)
      refine ⟨_, rfl, Nat.zero_le _, fun p hp => ?_⟩
      have s1 := same_new hp (.lst [])
      have e1 : upd H1 p (.lst []) p = some (.lst []) := upd_same
      have hv1 := s1 _ _ hv'
      generalize upd H1 p (.lst []) = H2 at s1 e1 hv1 ⊢
      refine ⟨_, _, .lst (SqL.of hv1) (dpAll_strs _), .lst (SqL.of e1) .nil, shaped_strs _ ok1, shaped_nil, _, rfl, ?_⟩
      have eA : PyData.eqv (.list ((((cp x).filter fun c => !azB c).map fun c => (⟨#[c]⟩ : Str)).map .str)) (.list []) = azs (cp x) := by
        rw [eqv_nils]
        refine Eq.trans ?_ (filter_all azB (cp x))
        cases (cp x).filter fun c => !azB c <;> rfl
      rw [eA]
      have eL : letB x = (azs (cp x) && rising (cp x)) := by
        unfold letB
        rw [decide_eq_true z2.1, decide_eq_true z2.2, Bool.true_and, Bool.true_and]
      refine ite2 (fun za => ?_) (fun za => hq _ ?_ _ (st.trans (sm.trans s1)))
      · have hL : letB x = rising (cp x) := by rw [eL, za, Bool.true_and]
        have sH : Same H H2 := st.trans (sm.trans s1)
        clear st sm s1 hv hv' hv1 e1
        refine ⟨_, rfl, x, rfl, Nat.le_trans hx (by decide), 1, x.length, rfl, ⟨by decide, by decide, by omega, by omega⟩, fun E' hE' => ?_⟩
        refine lc_range (lo := 1) (n := ((x.length : Int) - 1).toNat) (fun i H' => H' E' = some (.lst (((List.range i).filter fun j => !stepB (cp x) j).map fun j => V.int (1 + (j : Nat)))) ∧ Same H2 H') ⟨upd_same, same_new hE' _⟩ ?_ ?_
        · rintro i H3 hi ⟨hv3, sm3⟩
          have hi' : i + 1 < x.length := by omega
          obtain ⟨c, hc⟩ : ∃ c, (cp x)[i]? = some c := ⟨_, List.getElem?_eq_getElem (by rw [hlen]; omega)⟩
          obtain ⟨d, hd⟩ : ∃ d, (cp x)[i + 1]? = some d := ⟨_, List.getElem?_eq_getElem (by rw [hlen]; exact hi')⟩
          have e0 : stepB (cp x) i = decide (c < d) := by
            unfold stepB
            rw [sing_at hc, sing_at hd]
          have g1 : atI (cp x) (1 + (i : Int) - 1) = some c := by rw [show (1 + (i : Int) - 1) = ((i : Nat) : Int) by omega]; exact atI_nat hc
          have g2 : atI (cp x) (1 + (i : Int)) = some d := by rw [show (1 + (i : Int)) = ((i + 1 : Nat) : Int) by omega]; exact atI_nat hd
          refine ⟨rfl, _, rfl, _, rfl, _, _, rfl, rfl, x, _, c, rfl, rfl, Nat.le_trans hx (by decide), g1, _, rfl, _, rfl, x, _, d, rfl, rfl, Nat.le_trans hx (by decide), g2, _, _, rfl, rfl, _, rfl, ?_⟩
          have e2 : stepB (cp x) i = decide (([c] : List Nat) < [d]) := by rw [e0, lt1]
          refine ite2 (fun z => ⟨_, rfl, _, hv3, ?_, ?_, fun b' o' e' => ?_⟩) (fun z => ⟨?_, sm3⟩)
          · rw [List.length_map]
            refine Nat.lt_of_le_of_lt (List.length_filter_le _ _) ?_
            rw [List.length_range]
            exact Nat.lt_of_lt_of_le (show i < 4 by omega) (by decide)
          · have z' : (!decide (([c] : List Nat) < [d])) = true := z
            rw [← e2] at z'
            rw [upd_same, List.range_succ, List.filter_append, List.map_append]
            simp [z']
          · rw [upd_ne (ne_of_none e' hE')]
            exact sm3 b' o' e'
          · have z' : ¬ (!decide (([c] : List Nat) < [d])) = true := z
            rw [← e2] at z'
            rw [hv3, List.range_succ, List.filter_append]
            simp at z'
            simp [z']
        · rintro H3 ⟨hv3, sm3⟩
          have hv3' : H3 E' = some (.lst ((((List.range ((x.length : Int) - 1).toNat).filter fun j => !stepB (cp x) j).map fun j => (1 + (j : Nat) : Int)).map V.int)) := by rw [hv3, List.map_map]; rfl
          refine ⟨Nat.zero_le _, fun p hp => ?_⟩
          have s4 := same_new hp (.lst [])
          refine ⟨_, _, .lst (SqL.of (s4 _ _ hv3')) (dpAll_ints _), .lst (SqL.of upd_same) .nil, shaped_ints _, shaped_nil, ?_⟩
          refine hq _ ?_ _ (sH.trans (sm3.trans s4))
          rw [hL, eqv_nil]
          unfold rising
          rw [hlen, ← filter_all, show ((x.length : Int) - 1).toNat = x.length - 1 by omega]
          cases (List.range (x.length - 1)).filter fun j => !stepB (cp x) j <;> rfl
      · rw [eL]
        cases e : azs (cp x) with
        | false => rfl
        | true => exact absurd e za
end
end Vf

set_option Elab.async false
set_option linter.all false
set_option maxRecDepth 100000
set_option maxHeartbeats 4000000
namespace Vf
open PySem PySem.Spec PyProof.Rows L2 L2.Vx Vs
section
variable {P : Program} {w : World} {K : PySem.W.Frag} {mg : Str → Option Value} {base : Heap}
theorem flat_parts (a : Str) : ((parts a).map V.str).all flatV = true := by
  rw [List.all_eq_true]
  intro y hy
  obtain ⟨z, _, rfl⟩ := List.mem_map.mp hy
  rfl
theorem sing_inj {c d : Nat} : ((⟨#[c]⟩ : Str) == ⟨#[d]⟩) = decide (c = d) := by
  by_cases h : c = d
  · subst h; simp
  · rw [decide_eq_false h, beq_eq_false_iff_ne]
    intro z
    exact h (by simpa using z)
theorem in_parts (a : Str) (c : Nat) : inV (.str ⟨#[c]⟩) ((parts a).map V.str) = decide (c ∈ cp a) := by
  unfold inV parts cp
  rw [List.any_map, List.any_map]
  generalize a.cps.toList = l
  induction l with
  | nil => rfl
  | cons d r ih =>
    rw [List.any_cons, ih]
    show (((⟨#[d]⟩ : Str) == ⟨#[c]⟩) || _) = _
    rw [sing_inj]
    by_cases h : d = c
    · subst h; simp
    · simp [h, Ne.symm h]
theorem notIn_at {X : Cx} (e : X.K = K) : OpR X (compareOp .NotIn) (rIn K true) := e ▸ op_notIn_seq
theorem ok_word {f : Addr} {fd : FuncData} (F : Fun K "_law_is_word" "_law_is_word" sWord f fd) (T : TxtR mg) : FnOk P w K mg base CX0 1 f fd ["_law_signs_here", "_law_it"] (spText K wordB) := by
  refine F.ok scWord (fun vs H Q E h => ?_) (fun cdv A outer s H vs Q E hr h => ?_)
  · obtain ⟨a, v, y, rfl, _⟩ := h
    rfl
  obtain ⟨a, v, y, rfl, hv, ha, q⟩ := h
  refine ⟨_, pss_one (ps_ret (pe_and (pe_callB call_isi (by rfl) T.isi (by decide +kernel) (pa_cons (pv 1) (pa_cons (pe_bltn (v := .ty "str") (u := .type "str") (by rfl) T.str (by decide +kernel) rfl) pa_nil)))
      (pe_one (pe_cmpR (op_eqD hr.units) (pe_lc (own := [("_law_sign", 2)]) (g := gName 2) rfl scWord.nd (pi_str (pv 1))
        (blkOk_by (N := ["_law_signs_here", "_law_it", "_law_sign"]) (sc := defScope sWord) (by decide +kernel)) (fun _ _ _ _ _ => pg_name (i := 2) scWord.nd rfl (Or.inl rfl))
        (fun _ _ _ _ _ => by exact pts_one (pt_cmpR (notIn_at (K := K) rfl) (pv 2) (pe_callTy (cr_listText rfl) (by rfl) T.list (by decide +kernel) (pa_cons (pv 0) pa_nil)) (by rfl))) (fun _ _ _ _ _ => pv 2)) (pe_lst pa_nil) (nomark _))))), ?_⟩
  obtain ⟨t, t1, t2⟩ := strOr_ty hv
  refine ⟨_, rfl, _, _, t, _, _, rfl, .ty _, t1, t2, _, rfl, ?_⟩
  cases y with
  | none => exact q H (Same.refl H)
  | some x =>
    obtain ⟨rfl, hx, h128⟩ := hv
    have hlen : (cp x).length = x.length := by rw [Array.length_toList]; rfl
    refine ⟨_, rfl, _, rfl, fun D hD => ?_⟩
    refine lc_it walk_str (fun i H' => H' D = some (.lst ((((cp x).take i).filter fun c => !decide (c ∈ cp a)).map fun c => V.str ⟨#[c]⟩)) ∧ Same H H') ⟨upd_same, same_new hD _⟩ (fun _ _ _ _ => trivial) ?_ ?_
    · rintro i v H1 H2 hi ⟨hv, sm⟩ ⟨rfl, c, hc, rfl⟩
      have hc' : (cp x)[i]? = some c := by rw [Array.getElem?_toList]; exact hc
      refine ⟨rfl, _, rfl, _, rfl, a, rfl, Nat.le_trans ha (by decide), fun p hp => ?_⟩
      have s1 := same_new hp (.lst ((parts a).map V.str))
      have e1 : upd H2 p (.lst ((parts a).map V.str)) p = some (.lst ((parts a).map V.str)) := upd_same
      have hv1 := s1 _ _ hv
      have sm1 := sm.trans s1
      generalize upd H2 p (.lst ((parts a).map V.str)) = H3 at s1 e1 hv1 sm1 ⊢
      have ein : (if (true : Bool) = true then !inV (.str ⟨#[c]⟩) ((parts a).map V.str) else inV (.str ⟨#[c]⟩) ((parts a).map V.str)) = !decide (c ∈ cp a) := by rw [if_pos rfl, in_parts]
      refine ⟨p, _, rfl, .inl (SqL.of e1), rfl, flat_parts a, _, rfl, ?_⟩
      refine ite2 (fun z => ⟨_, rfl, _, hv1, ?_, ?_, fun b' o' e' => ?_⟩) (fun z => ⟨?_, sm1⟩)
      · rw [List.length_map]
        exact Nat.lt_of_le_of_lt (Nat.le_trans (List.length_filter_le _ _) (List.length_take_le' _ _)) (by rw [hlen]; exact Nat.lt_of_le_of_lt hx (by decide))
      · have z' : (!decide (c ∈ cp a)) = true := by rw [← ein]; exact z
        rw [upd_same, List.take_add_one, hc', List.filter_append, List.map_append]
        simp at z'
        simp [z']
      · rw [upd_ne (ne_of_none e' hD)]
        exact sm1 b' o' e'
      · have z' : ¬ (!decide (c ∈ cp a)) = true := by rw [← ein]; exact z
        rw [hv1, List.take_add_one, hc', List.filter_append]
        simp at z'
        simp [z']
    · rintro H1 ⟨hv, sm⟩
      have et : ((cp x).take x.cps.size) = cp x := List.take_of_length_le (by rw [hlen]; exact Nat.le_refl _)
      rw [et] at hv
      have hv' : H1 D = some (.lst ((((cp x).filter fun c => !decide (c ∈ cp a)).map fun c => (⟨#[c]⟩ : Str)).map V.str)) := by rw [hv, List.map_map]; rfl
      have ok1 : ∀ y ∈ ((cp x).filter fun c => !decide (c ∈ cp a)).map fun c => (⟨#[c]⟩ : Str), PyData.strOk y = true := fun y hy => by
        obtain ⟨c, hc, rfl⟩ := List.mem_map.mp hy
        exact sing_ok (h128 c (List.mem_filter.mp hc).1)
      refine ⟨Nat.zero_le _, fun p hp => ?_⟩
      have s1 := same_new hp (.lst [])
      refine ⟨_, _, .lst (SqL.of (s1 _ _ hv')) (dpAll_strs _), .lst (SqL.of upd_same) .nil, shaped_strs _ ok1, shaped_nil, ?_⟩
      have eA : PyData.eqv (.list ((((cp x).filter fun c => !decide (c ∈ cp a)).map fun c => (⟨#[c]⟩ : Str)).map .str)) (.list []) = wordB a x := by
        rw [eqv_nils]
        refine Eq.trans ?_ (filter_all (fun c => decide (c ∈ cp a)) (cp x))
        cases (cp x).filter fun c => !decide (c ∈ cp a) <;> rfl
      rw [eA]
      exact q _ (sm.trans s1)
end
end Vf

set_option Elab.async false
set_option linter.all false
set_option maxRecDepth 100000
set_option maxHeartbeats 4000000
namespace Vf
open PySem PySem.Spec PyProof.Rows L2 L2.Vx Vs
open PySem.Froz (sing)
abbrev sSigns : Stmt := top 9
/-! ### the mathematics of joined signs -/
theorem glue_nil : ∀ (l : List Str) (a : Array Nat), (l.foldl (fun acc p => acc ++ (#[] : Array Nat) ++ p.cps) a).toList = a.toList ++ l.flatMap (fun p => p.cps.toList)
  | [], a => by simp
  | p :: r, a => by
    rw [List.foldl_cons, glue_nil r]
    simp
theorem cp_join (ys : List Str) : cp (PySem.Txt.join "" ys) = ys.flatMap cp := by
  show ((ys.drop 1).foldl (fun acc p => acc ++ (#[] : Array Nat) ++ p.cps) (ys.headD Str.empty).cps).toList = _
  rw [glue_nil]
  cases ys with
  | nil => rfl
  | cons y r => simp [cp]
theorem flat_sings : ∀ zs : List Nat, (zs.map sing).flatMap cp = zs
  | [] => rfl
  | z :: r => by
    rw [List.map_cons, List.flatMap_cons, flat_sings r]
    rfl
theorem len_cp (x : Str) : x.length = (cp x).length := by rw [Array.length_toList]; rfl
theorem rising_cons (a b : Nat) (r : List Nat) : rising (a :: b :: r) = (decide (a < b) && rising (b :: r)) := by
  unfold rising
  show (List.range (r.length + 1)).all _ = (_ && (List.range r.length).all _)
  rw [List.range_succ_eq_map, List.all_cons, List.all_map]
  rfl
theorem rising_of : ∀ zs : List Nat, sortedS (zs.map sing) = true → zs.Nodup → rising zs = true
  | [], _, _ => rfl
  | [a], _, _ => rfl
  | a :: b :: r, h, d => by
    have h' : (!ltCps [b] [a] && sortedS ((b :: r).map sing)) = true := h
    obtain ⟨h1, h2⟩ := Bool.and_eq_true_iff.mp h'
    obtain ⟨d1, d2⟩ := List.nodup_cons.mp d
    rw [rising_cons, rising_of (b :: r) h2 d2, Bool.and_true]
    rw [ltCps_eq, lt1] at h1
    simp at h1
    have ne : a ≠ b := fun e => d1 (e ▸ List.mem_cons_self ..)
    exact decide_eq_true (by omega)
/-- texts of one sign each, up to their order -/
theorem sings_perm {ys : List Str} {zs : List Nat} (h : ys.Perm (zs.map sing)) : ∃ us : List Nat, ys = us.map sing ∧ us.Perm zs := by
  have e : ∀ y ∈ ys, sing ((cp y).headD 0) = y := fun y hy => by
    obtain ⟨c, _, rfl⟩ := List.mem_map.mp (h.mem_iff.mp hy)
    rfl
  refine ⟨ys.map fun y => (cp y).headD 0, ?_, ?_⟩
  · rw [List.map_map]
    refine Eq.trans (List.map_id ys).symm (List.map_congr_left fun y hy => ?_)
    exact (e y hy).symm
  · have q := h.map fun y => (cp y).headD 0
    rw [List.map_map] at q
    refine q.trans (List.Perm.of_eq ?_)
    refine Eq.trans (List.map_congr_left fun z _ => ?_) (List.map_id zs)
    rfl
abbrev abc : Str := "abcdefghijklmnopqrstuvwxyz"
theorem abc_az : ∀ c ∈ cp abc, azB c = true := List.all_eq_true.mp (show azs (cp abc) = true by decide +kernel)
theorem abc_nd : (cp abc).Nodup := by decide +kernel
theorem abc_len : (cp abc).length = 26 := by decide +kernel
/-- some of the letters, sorted and joined, are letters -/
theorem join_letters {found left : List Nat} {ys : List Str} (p : (found ++ left).Perm (cp abc)) (h1 : 1 ≤ found.length) (h4 : found.length ≤ 4) (hp : ys.Perm (found.map sing)) (hs : sortedS ys = true) :
    letB (PySem.Txt.join "" ys) = true ∧ (PySem.Txt.join "" ys).length ≤ 4 ∧ ∀ c ∈ cp (PySem.Txt.join "" ys), c < 128 := by
  obtain ⟨us, rfl, pu⟩ := sings_perm hp
  have e : cp (PySem.Txt.join "" (us.map sing)) = us := by rw [cp_join, flat_sings]
  have el : (PySem.Txt.join "" (us.map sing)).length = found.length := by rw [len_cp, e, pu.length_eq]
  have az : ∀ c ∈ us, azB c = true := fun c hc => abc_az c (p.mem_iff.mp (List.mem_append_left _ (pu.mem_iff.mp hc)))
  have nd : us.Nodup := pu.nodup_iff.mpr ((List.nodup_append.mp (p.nodup_iff.mpr abc_nd)).1)
  refine ⟨?_, by rw [el]; exact h4, fun c hc => ?_⟩
  · unfold letB azs
    rw [el, e, rising_of us hs nd, List.all_eq_true.mpr az, decide_eq_true h1, decide_eq_true h4]
    rfl
  · rw [e] at hc
    have z := az c hc
    unfold azB at z
    simp at z
    omega
end Vf

set_option Elab.async false
set_option linter.all false
set_option maxRecDepth 100000
set_option maxHeartbeats 4000000
namespace Vf
open PySem PySem.Spec PyProof.Rows L2 L2.Vx Vs
open PySem.Froz (sing)
def spSigns : Sp := fun vs H Q _ => ∃ d g : Addr, vs = [.ref d, .int 4] ∧ DeckAt H d g ∧
  ∀ (x : Str) (H' : Hp), letB x = true → x.length ≤ 4 → (∀ c ∈ cp x, c < 128) → DeckAt H' d g → Keeps d g H H' → Q (.str x) H'
theorem DeckAt.other {H : Hp} {d g p : Addr} (h : DeckAt H d g) (n1 : p ≠ d) (n2 : p ≠ g) (o : HO) : DeckAt (upd H p o) d g := by
  obtain ⟨ns, m, n, h1, h2, h3, h4⟩ := h
  exact ⟨ns, m, n, by rw [upd_ne n1.symm]; exact h1, by rw [upd_ne n2.symm]; exact h2, h3, h4⟩
def Off (d g : Addr) (H : Hp) : Addr → Prop := fun a => (a ≠ d ∧ a ≠ g) ∧ H a = none
theorem Keeps.free {d g t : Addr} {H H' : Hp} (k : Keeps d g H H') (n1 : t ≠ d) (n2 : t ≠ g) (e : H' t = none) : H t = none := by
  cases z : H t with
  | none => rfl
  | some u =>
    have y := k t u n1 n2 z
    rw [e] at y
    exact nomatch y
abbrev sg (c : Nat) : V := V.str (sing c)
theorem erase_sg : ∀ (l : List Nat) (j : Nat), (l.map sg).eraseIdx j = (l.eraseIdx j).map sg
  | [], _ => rfl
  | _ :: _, 0 => rfl
  | c :: r, j + 1 => by rw [List.map_cons, List.eraseIdx_cons_succ, List.eraseIdx_cons_succ, List.map_cons, erase_sg r j]
theorem sum_sing : ∀ us : List Nat, ((us.map sing).map (·.length)).sum = us.length
  | [] => rfl
  | c :: r => by
    rw [List.map_cons, List.map_cons, List.sum_cons, sum_sing r, List.length_cons]
    show 1 + r.length = _
    omega
structure TxtS (mg : Str → Option Value) (fW : Addr) : Prop extends TxtD mg fW where
  range : mg "range" = none
  sorted : mg "sorted" = none
  set : mg "set" = none
section
variable {P : Program} {w : World} {K : PySem.W.Frag} {mg : Str → Option Value} {base : Heap}
theorem scSigns : FnScope ["_law_deck_here", "_law_limit", "_law_left", "_law_found", "_law_k"] ["_law_deck_here", "_law_limit"] (defScope sSigns) := ⟨rfl, rfl, rfl, by decide +kernel, rfl, by decide +kernel, by decide +kernel⟩
theorem ok_signs {f fW : Addr} {fd fdW : FuncData} (F : Fun K "_law_signs" "_law_signs" sSigns f fd)
    (GW : FnOk P w K mg base CX0 1 fW fdW ["_law_deck_here", "_law_below"] spDraw) (bW : Binds K fdW ["_law_deck_here", "_law_below"] []) (kW : PySem.W.keepIn K (.ref fW) = true) (T : TxtS mg fW) :
    FnOk P w K mg base CX0 2 f fd ["_law_deck_here", "_law_limit"] spSigns := by
  refine F.ok scSigns (fun vs H Q E h => ?_) (fun cdv A outer s H vs Q E hr h => ?_)
  · obtain ⟨d, g, rfl, _⟩ := h
    rfl
  obtain ⟨d, g, rfl, hD, q⟩ := h
  refine ⟨_, pss_cons (ps_par (i := 2) (j := 3) rfl scSigns.nd rfl rfl (by decide) rfl rfl (pa_cons (pe_callTy (cr_listText rfl) (by rfl) T.list (by decide +kernel) (pa_cons pe_str pa_nil)) (pa_cons (pe_lst pa_nil) pa_nil)) (by rfl))
    (pss_cons (ps_for PassesOwn.never rfl (pi_range1 rfl T.range (pa_cons (pe_op op_add pe_int (pe_call GW hr rfl T.draw kW bW .nil pass0 (pa_cons (pv 0) (pa_cons (pv 1) pa_nil)))) pa_nil)) (pg_name (i := 4) scSigns.nd rfl (Or.inl rfl))
      (pss_one (ps_expr (pe_bm PySem.F.plainAttrs_list PySem.F.slot_list_append PySem.F.type_list_append mt_append (pv 3) (pa_cons
        (pe_bm PySem.F.plainAttrs_list PySem.F.slot_list_pop PySem.F.type_list_pop mt_popAt (pv 2) (pa_cons (pe_call GW hr rfl T.draw kW bW .nil pass0 (pa_cons (pv 0) (pa_cons (pe_callB call_len_seq (by rfl) T.len PySem.boot_len (pa_cons (pv 2) pa_nil)) pa_nil))) pa_nil)) pa_nil)))))
    (pss_one (ps_ret (pe_join pe_str (pe_callB cr_sortedS (by rfl) T.sorted (by decide +kernel) (pa_cons (pv 3) pa_nil)))))), ?_⟩
  refine ⟨abc, rfl, (by decide +kernel), fun l hl => ⟨Nat.zero_le _, fun t ht => ?_⟩⟩
  have s1 := same_new hl (.lst ((parts abc).map V.str))
  have e1 : upd H l (.lst ((parts abc).map V.str)) l = some (.lst ((cp abc).map sg)) := by rw [upd_same, List.map_map]; rfl
  generalize upd H l (.lst ((parts abc).map V.str)) = H1 at s1 e1 ht ⊢
  have s2 := same_new ht (.lst [])
  have e2 : upd H1 t (.lst []) t = some (.lst []) := upd_same
  have e1' := s2 _ _ e1
  have hlt : l ≠ t := ne_of_none e1 ht
  have hln : l ≠ d ∧ l ≠ g := hD.dn hl
  have htn : t ≠ d ∧ t ≠ g := hD.dn (s1.free ht)
  have htH : H t = none := s1.free ht
  have sm := s1.trans s2
  generalize upd H1 t (.lst []) = H2 at s2 e2 e1' sm ⊢
  clear s1 s2 e1
  have hD2 := hD.same sm
  refine ⟨_, _, rfl, _, rfl, _, rfl, d, g, 4, rfl, by decide, by decide, hD2, fun r0 H3 hr0 hr4 hD3 k3 => ⟨_, _, rfl, rfl, _, rfl, by omega, by omega, ?_⟩⟩
  refine for_range (lo := 0) (n := (1 + r0).toNat) (fun i σ H' => ∃ (left found : List Nat) (v : Option V), σ = [some (.ref d), some (.int 4), some (.ref l), some (.ref t), v] ∧ H' l = some (.lst (left.map sg)) ∧ H' t = some (.lst (found.map sg)) ∧
    (found ++ left).Perm (cp abc) ∧ found.length = i ∧ DeckAt H' d g ∧ Keeps d g H H') ?_ ?_ ?_
  · exact ⟨cp abc, [], none, rfl, k3 _ _ hln.1 hln.2 e1', k3 _ _ htn.1 htn.2 e2, List.Perm.refl _, rfl, hD3, (Keeps.of sm).trans k3⟩
  · rintro i σ H4 hi ⟨left, found, v, rfl, f1, f2, pm, fl, hD4, k4⟩
    have ll : left.length = 26 - i := by
      have z := pm.length_eq
      rw [List.length_append, abc_len, fl] at z
      omega
    have hlm : (left.map sg).length = left.length := List.length_map _
    refine ⟨_, rfl, .inl ⟨rfl, _, SqL.of f2⟩, _, rfl, .inl ⟨rfl, _, SqL.of f1⟩, _, rfl, _, rfl, l, _, rfl, .inl (SqL.of f1), d, g, _, rfl, by rw [hlm]; omega, by rw [hlm]; omega, hD4, fun r H5 hr0' hrb hD5 k5 => ?_⟩
    rw [hlm] at hrb
    have f1' := k5 _ _ hln.1 hln.2 f1
    have f2' := k5 _ _ htn.1 htn.2 f2
    have hrl : r.toNat < left.length := by omega
    have gx : (left.map sg)[r.toNat]? = some (sg left[r.toNat]) := by rw [List.getElem?_map, List.getElem?_eq_getElem hrl]; rfl
    refine ⟨l, _, r, r.toNat, _, rfl, rfl, f1', by omega, by omega, ?_, gx, ?_⟩
    · rw [hlm]
      exact seqIndex_of hr0' hrb
    have f2'' : upd H5 l (.lst ((left.map sg).eraseIdx r.toNat)) t = some (.lst (found.map sg)) := by rw [upd_ne hlt.symm]; exact f2'
    refine ⟨t, _, _, rfl, rfl, f2'', ?_, left.eraseIdx r.toNat, found ++ [left[r.toNat]], _, rfl, ?_, ?_, ?_, ?_, ?_, ?_⟩
    · rw [List.length_map, fl]
      exact Nat.lt_of_lt_of_le (show i < 5 by omega) (by decide)
    · rw [upd_ne hlt, upd_same, erase_sg]
    · rw [upd_same, List.map_append]; rfl
    · rw [List.append_assoc]
      refine (List.Perm.append_left _ ?_).trans pm
      exact erase_perm _ _ _ (List.getElem?_eq_getElem hrl)
    · rw [List.length_append, fl]; rfl
    · exact (hD5.other hln.1 hln.2 _).other htn.1 htn.2 _
    · intro b o n1 n2 e
      rw [upd_ne (ne_of_none e htH), upd_ne (ne_of_none e hl)]
      exact k5 b o n1 n2 (k4 b o n1 n2 e)
  · rintro σ H4 ⟨left, found, v, rfl, f1, f2, pm, fl, hD4, k4⟩
    have f2' : H4 t = some (.lst ((found.map sing).map V.str)) := by rw [f2, List.map_map]; rfl
    refine ⟨⟨_, rfl⟩, _, rfl, t, _, rfl, SqL.of f2', ?_, fun ys p hp hs np => ?_⟩
    · rw [List.length_map, fl]; omega
    have big := join_letters pm (by rw [fl]; omega) (by rw [fl]; omega) hp hs
    refine ⟨_, p, ys, rfl, rfl, .inl (SqL.of upd_same), ?_, q _ _ big.1 big.2.1 big.2.2 (hD4.same (same_new np _)) (k4.trans (.of (same_new np _)))⟩
    obtain ⟨us, rfl, pu⟩ := sings_perm hp
    rw [sum_sing, List.length_map, pu.length_eq, fl]
    show (1 + r0).toNat + (1 + r0).toNat * 0 ≤ _
    omega
end
end Vf

set_option Elab.async false
set_option linter.all false
set_option maxRecDepth 100000
set_option maxHeartbeats 4000000
namespace Vf
open PySem PySem.Spec PyProof.Rows L2 L2.Vx Vs
open PySem.Froz (sing)
abbrev sValue : Stmt := top 10
structure GoodV (D : PyData) : Prop where
  sh : D.showable = true
  len : D.shown.length ≤ 10000
  dep : D.depth ≤ 8
  tx : ∀ x, D = .str x → x.length ≤ 100 ∧ ∀ c ∈ cp x, c < 128
theorem good_word {x : Str} (h : x.length ≤ 100) (h2 : ∀ c ∈ cp x, c < 128) : GoodV (.str x) := by
  refine ⟨rfl, ?_, by simp [PyData.depth], fun y e => by cases e; exact ⟨h, h2⟩⟩
  show (PySem.reprText x).length ≤ 10000
  have q := StrLaws.reprText_len x fun c hc => Nat.lt_trans (h2 c hc) (by decide)
  omega
theorem nodup_le {α : Type} [DecidableEq α] : ∀ (l m : List α), l.Nodup → (∀ k ∈ l, k ∈ m) → l.length ≤ m.length
  | [], m, _, _ => Nat.zero_le _
  | x :: l, m, d, s => by
    obtain ⟨d1, d2⟩ := List.nodup_cons.mp d
    have p := (List.perm_cons_erase (s x (List.mem_cons_self ..))).length_eq
    have q := nodup_le l (m.erase x) d2 fun k hk => (List.mem_erase_of_ne fun z : k = x => d1 (by rw [← z]; exact hk)).mpr (s k (List.mem_cons_of_mem _ hk))
    simp only [List.length_cons] at p ⊢
    omega
theorem sings_of {ys : List Str} {zs : List Nat} (h : ∀ y ∈ ys, y ∈ zs.map sing) : ∃ us : List Nat, ys = us.map sing ∧ ∀ c ∈ us, c ∈ zs := by
  refine ⟨ys.map fun y => (cp y).headD 0, ?_, fun c hc => ?_⟩
  · rw [List.map_map]
    refine Eq.trans (List.map_id ys).symm (List.map_congr_left fun y hy => ?_)
    obtain ⟨c, _, rfl⟩ := List.mem_map.mp (h y hy)
    rfl
  · obtain ⟨y, hy, rfl⟩ := List.mem_map.mp hc
    obtain ⟨c, hz, rfl⟩ := List.mem_map.mp (h y hy)
    exact hz
/-- what stands in a value drawn: the pool's signs -/
def extra : List Nat := [97, 122, 65, 32, 10, 45, 48, 123, 98, 121]
abbrev poolOf (a : Str) : List Nat := (cp a ++ (cp a ++ (cp a ++ []))) ++ extra
theorem pool128 {a : Str} (h : ∀ c ∈ cp a, c < 128) : ∀ c ∈ poolOf a, c < 128 := fun c hc => by
  unfold poolOf at hc
  simp only [List.mem_append, List.not_mem_nil, or_false] at hc
  rcases hc with (hc | hc | hc) | hc
  · exact h c hc
  · exact h c hc
  · exact h c hc
  · exact (show ∀ c ∈ extra, c < 128 by decide) c hc
theorem shown_a {a : Str} (ha : a.length ≤ 4) (h : ∀ c ∈ cp a, c < 128) : (PyData.shown (.str a)).length ≤ 100 := by
  show (PySem.reprText a).length ≤ 100
  have q := StrLaws.reprText_len a fun c hc => Nat.lt_trans (h c hc) (by decide)
  omega
theorem good_tup1 {a : Str} (ha : a.length ≤ 4) (h : ∀ c ∈ cp a, c < 128) : GoodV (.tuple [.str a]) := by
  refine ⟨by simp [PyData.showable, PyData.showableAll], ?_, by simp [PyData.depth, PyData.depthAll], fun x e => nomatch e⟩
  simp only [PyData.shown, PyData.shownAll]
  refine Nat.le_trans (tupleText_len_le _) ?_
  have q := shown_a ha h
  simp only [PyData.shown] at q
  simp only [List.map_cons, List.map_nil, List.sum_cons, List.sum_nil, List.length_cons, List.length_nil]
  omega
theorem good_lst2 {a : Str} (ha : a.length ≤ 4) (h : ∀ c ∈ cp a, c < 128) : GoodV (.list [.str a, .list [.str a]]) := by
  refine ⟨by simp [PyData.showable, PyData.showableAll], ?_, by simp [PyData.depth, PyData.depthAll], fun x e => nomatch e⟩
  simp only [PyData.shown, PyData.shownAll]
  refine Nat.le_trans (listText_len_le _) ?_
  have q := shown_a ha h
  simp only [PyData.shown] at q
  have q2 := listText_len_le [PySem.reprText a]
  simp only [List.map_cons, List.map_nil, List.sum_cons, List.sum_nil, List.length_cons, List.length_nil] at q2 ⊢
  omega
def spValue : Sp := fun vs H Q _ => ∃ (d g : Addr) (a : Str), vs = [.ref d, .str a] ∧ DeckAt H d g ∧ a.length ≤ 4 ∧ (∀ c ∈ cp a, c < 128) ∧
  ∀ (v : V) (D : PyData) (H' : Hp), Dt H' (Off d g H) v D → GoodV D → DeckAt H' d g → Keeps d g H H' → Q v H'
structure TxtV (mg : Str → Option Value) (fW fP : Addr) : Prop extends TxtS mg fW where
  pick : mg "_law_pick" = some (.ref fP)
section
variable {P : Program} {w : World} {K : PySem.W.Frag} {mg : Str → Option Value} {base : Heap}
theorem scValue : FnScope ["_law_deck_here", "_law_signs_here", "_law_pool", "_law_word", "_law_some", "_law_k"] ["_law_deck_here", "_law_signs_here"] (defScope sValue) := ⟨rfl, rfl, rfl, by decide +kernel, rfl, by decide +kernel, by decide +kernel⟩
theorem ok_value {f fW fP : Addr} {fd fdW fdP : FuncData} (F : Fun K "_law_value" "_law_value" sValue f fd)
    (GW : FnOk P w K mg base CX0 1 fW fdW ["_law_deck_here", "_law_below"] spDraw) (bW : Binds K fdW ["_law_deck_here", "_law_below"] []) (kW : PySem.W.keepIn K (.ref fW) = true)
    (GP : FnOk P w K mg base CX0 2 fP fdP ["_law_deck_here", "_law_some"] (spPick K)) (bP : Binds K fdP ["_law_deck_here", "_law_some"] []) (kP : PySem.W.keepIn K (.ref fP) = true) (T : TxtV mg fW fP) :
    FnOk P w K mg base CX0 3 f fd ["_law_deck_here", "_law_signs_here"] spValue := by
  refine F.ok scValue (fun vs H Q E h => ?_) (fun cdv A outer s H vs Q E hr h => ?_)
  · obtain ⟨d, g, k, rfl, _⟩ := h
    rfl
  obtain ⟨d, g, a, rfl, hD, ha, h128, q⟩ := h
  have hr1 : Room 1 _ := hr.mono (by omega)
  have fin : ∀ x H', x.length ≤ 100 → (∀ c ∈ cp x, c < 128) → DeckAt H' d g → Keeps d g H H' → Q (.str x) H' := fun x H' h1 h2 h3 h4 => q _ (.str x) H' (.flat rfl) (good_word h1 h2) h3 h4
  refine ⟨_, pss_cons (ps_set (i := 2) scValue.nd rfl (Or.inr rfl) (pe_op op_cat (pe_op op_rep (pe_callTy (cr_listText rfl) (by rfl) T.list (by decide +kernel) (pa_cons (pv 1) pa_nil)) pe_int)
      (pe_lst (pa_cons pe_str (pa_cons pe_str (pa_cons pe_str (pa_cons pe_str (pa_cons pe_str (pa_cons pe_str (pa_cons pe_str (pa_cons pe_str (pa_cons pe_str (pa_cons pe_str pa_nil))))))))))))) 
    (pss_cons (ps_if (pt_cmpR op_gt (pe_call GW hr1 rfl T.draw kW bW .nil pass0 (pa_cons (pv 0) (pa_cons pe_int pa_nil))) pe_int (nomark _))
        (pss_cons (ps_set (i := 3) scValue.nd rfl (Or.inl rfl) (pe_join pe_str (pe_lc (own := [("_law_k", 5)]) (g := gName 5) (tt := tYes) rfl scValue.nd
            (pi_range1 rfl T.range (pa_cons (pe_call GP hr rfl T.pick kP bP .nil pass0 (pa_cons (pv 0) (pa_cons (pe_lst (pa_cons pe_int (pa_cons pe_int (pa_cons pe_int (pa_cons pe_int (pa_cons pe_int (pa_cons pe_int (pa_cons pe_int pa_nil)))))))) pa_nil))) pa_nil))
            (blkOk_by (N := ["_law_deck_here", "_law_signs_here", "_law_pool", "_law_word", "_law_some", "_law_k"]) (sc := defScope sValue) (by decide +kernel)) (fun _ _ _ _ _ => pg_name (i := 5) scValue.nd rfl (Or.inl rfl)) (fun _ _ _ _ _ => pts_nil)
            (fun _ _ _ _ _ => pe_call GP hr rfl T.pick kP bP .nil pass0 (pa_cons (pv 0) (pa_cons (pv 2) pa_nil))))))
        (pss_one (ps_ret (pe_ifExp (pt_cmpR op_eq (pe_call GW hr1 rfl T.draw kW bW .nil pass0 (pa_cons (pv 0) (pa_cons pe_int pa_nil))) pe_int (nomark _))
            (pe_join pe_str (pe_callB (cr_sortedText rfl) (by rfl) T.sorted (by decide +kernel) (pa_cons (pe_callTy (cr_setText rfl) (by rfl) T.set (by decide +kernel) (pa_cons (pv 3) pa_nil)) pa_nil))) (pv 3))))) pss_nil)
    (pss_cons (ps_set (i := 4) scValue.nd rfl (Or.inl rfl) (pe_lst (pa_cons pe_non (pa_cons pe_bl (pa_cons pe_int (pa_cons (pe_tup pa_nil) (pa_cons (pe_tup (pa_cons pe_str (pa_cons pe_str pa_nil))) (pa_cons (pe_lst (pa_cons pe_str pa_nil)) (pa_cons (pe_lst pa_nil)
        (pa_cons pe_dnewK (pa_cons (pe_disp (pps_cons pe_str pe_str pps_nil) (by rfl) (by rfl) (fun z => by cases z) (by decide)) (pa_cons (pe_tup (pa_cons (pv 1) pa_nil)) (pa_cons (pe_lst (pa_cons (pv 1) (pa_cons (pe_lst (pa_cons (pv 1) pa_nil)) pa_nil)))
        (pa_cons (pe_op op_pow pe_int pe_int) (pa_cons (pe_tup (pa_cons pe_str pa_nil)) pa_nil)))))))))))))))
    (pss_one (ps_ret (pe_call GP hr rfl T.pick kP bP .nil pass0 (pa_cons (pv 0) (pa_cons (pv 4) pa_nil))))))), ?_⟩
  refine ⟨_, rfl, a, rfl, Nat.le_trans ha (by decide), fun p1 h1 => ?_⟩
  have s1 := same_new h1 (.lst ((parts a).map V.str))
  have e1 : upd H p1 (.lst ((parts a).map V.str)) p1 = some (.lst ((cp a).map sg)) := by rw [upd_same, List.map_map]; rfl
  generalize upd H p1 (.lst ((parts a).map V.str)) = H1 at s1 e1 ⊢
  have la : (cp a).length ≤ 4 := by rw [← len_cp]; exact ha
  refine ⟨p1, 3, _, rfl, rfl, e1, by decide, by decide, ?_, fun p2 h2 => ?_⟩
  · rw [List.length_map]
    exact Nat.le_trans (Nat.mul_le_mul_right _ la) (by decide)
  have s2 := s1.trans (same_new h2 (.lst (List.replicate (3 : Int).toNat ((cp a).map sg)).flatten))
  have e2 : upd H1 p2 (.lst (List.replicate (3 : Int).toNat ((cp a).map sg)).flatten) p2 = some (.lst ((cp a ++ (cp a ++ (cp a ++ []))).map sg)) := by
    rw [upd_same, List.map_append, List.map_append, List.map_append]
    rfl
  generalize upd H1 p2 (.lst (List.replicate (3 : Int).toNat ((cp a).map sg)).flatten) = H2 at s2 e2 ⊢
  refine ⟨by show 10 ≤ sizeLine; decide, fun p3 h3 => ?_⟩
  have s3 := s2.trans (same_new h3 (.lst [V.str "a", V.str "z", V.str "A", V.str " ", V.str "\n", V.str "-", V.str "0", V.str "{", V.str "b", V.str "y"]))
  have e3 : upd H2 p3 (.lst [V.str "a", V.str "z", V.str "A", V.str " ", V.str "\n", V.str "-", V.str "0", V.str "{", V.str "b", V.str "y"]) p3 = some (.lst (extra.map sg)) := by rw [upd_same]; rfl
  have e2' := same_new h3 (.lst [V.str "a", V.str "z", V.str "A", V.str " ", V.str "\n", V.str "-", V.str "0", V.str "{", V.str "b", V.str "y"]) _ _ e2
  generalize upd H2 p3 (.lst [V.str "a", V.str "z", V.str "A", V.str " ", V.str "\n", V.str "-", V.str "0", V.str "{", V.str "b", V.str "y"]) = H3 at s3 e3 e2' ⊢
  have lp : ((cp a ++ (cp a ++ (cp a ++ []))).map sg).length + (extra.map sg).length ≤ 22 := by
    rw [List.length_map, List.length_map]
    simp only [List.length_append, List.length_nil]
    have : extra.length = 10 := rfl
    omega
  refine ⟨_, _, _, _, rfl, rfl, e2', e3, Nat.le_trans lp (by decide), fun p4 h4 => ?_⟩
  have s4 := s3.trans (same_new h4 (.lst ((cp a ++ (cp a ++ (cp a ++ []))).map sg ++ extra.map sg)))
  have e4 : upd H3 p4 (.lst ((cp a ++ (cp a ++ (cp a ++ []))).map sg ++ extra.map sg)) p4 = some (.lst ((poolOf a).map sg)) := by rw [upd_same, ← List.map_append]
  have lpool : (poolOf a).length ≤ 22 := by
    unfold poolOf
    rw [List.length_append]
    rw [List.length_map, List.length_map] at lp
    exact lp
  have o4 := hD.dn (s3.free h4)
  show tSeq _ _ _ _ (upd H3 p4 (.lst ((cp a ++ (cp a ++ (cp a ++ []))).map sg ++ extra.map sg)))
  generalize upd H3 p4 (.lst ((cp a ++ (cp a ++ (cp a ++ []))).map sg ++ extra.map sg)) = H4 at s4 e4 ⊢
  clear s1 s2 s3 e1 e2 e3 e2' lp
  have hD4 := hD.same s4
  refine ⟨_, rfl, d, g, _, rfl, by decide, by decide, hD4, fun r1 H5 r10 r1b hD5 k5 => ⟨_, _, rfl, rfl, _, rfl, ?_⟩⟩
  have e5 := k5 _ _ o4.1 o4.2 e4
  have k5' := (Keeps.of s4).trans k5
  refine ite2 (fun _ => ?_) (fun _ => ?_)
  · refine ⟨⟨_, rfl⟩, _, rfl, by show 7 ≤ sizeLine; decide, fun l hl => ?_⟩
    have ol := hD5.dn hl
    refine ⟨d, g, l, _, rfl, SqL.of upd_same, ol.1, ol.2, (fun z => nomatch z), by show 7 < 1000000; decide, hD5.same (same_new hl _), fun n H6 hn hD6 k6 => ?_⟩
    have kk : Keeps d g H5 H6 := (Keeps.of (same_new hl _)).trans k6
    obtain ⟨j, rfl, j0, j40⟩ : ∃ j : Int, n = .int j ∧ 0 ≤ j ∧ j ≤ 40 := by
      simp only [List.mem_cons, List.not_mem_nil, or_false] at hn
      rcases hn with rfl | rfl | rfl | rfl | rfl | rfl | rfl <;> exact ⟨_, rfl, by decide, by decide⟩
    have e6 := kk _ _ o4.1 o4.2 e5
    have k6' := k5'.trans kk
    refine ⟨j, rfl, by omega, by omega, fun D hDn => ?_⟩
    have oD := hD6.dn hDn
    refine lc_range (lo := 0) (n := j.toNat) (fun i H' => ∃ zs : List Nat, H' D = some (.lst (zs.map sg)) ∧ zs.length = i ∧ (∀ c ∈ zs, c < 128) ∧ DeckAt H' d g ∧ Keeps d g H6 H') ?_ ?_ ?_
    · exact ⟨[], upd_same, rfl, (fun _ z => nomatch z), hD6.same (same_new hDn _), .of (same_new hDn _)⟩
    · rintro i H' hi ⟨zs, f1, f2, f3, f4, f5⟩
      refine ⟨rfl, _, rfl, _, rfl, d, g, p4, _, rfl, SqL.of (f5 _ _ o4.1 o4.2 e6), o4.1, o4.2, ?_, ?_, f4, fun v H2' hv hD' k' => ?_⟩
      · unfold poolOf extra
        simp
      · rw [List.length_map]; omega
      obtain ⟨c, hc, rfl⟩ := List.mem_map.mp hv
      refine ⟨_, k' _ _ oD.1 oD.2 f1, ?_, zs ++ [c], by rw [upd_same, List.map_append]; rfl, by rw [List.length_append, f2]; rfl, fun b hb => ?_, hD'.other oD.1 oD.2 _, fun b o n1 n2 e => ?_⟩
      · rw [List.length_map, f2]
        exact Nat.lt_of_lt_of_le (show i < 50 by omega) (by decide)
      · rcases List.mem_append.mp hb with hb | hb
        · exact f3 b hb
        · rw [List.mem_singleton.mp hb]
          exact pool128 h128 c hc
      · rw [upd_ne (ne_of_none e hDn)]
        exact k' b o n1 n2 (f5 b o n1 n2 e)
    · rintro H' ⟨zs, f1, f2, f3, f4, f5⟩
      have f1' : H' D = some (.lst ((zs.map sing).map V.str)) := by rw [f1, List.map_map]; rfl
      have l40 : zs.length ≤ 40 := by omega
      have ew : cp (PySem.Txt.join "" (zs.map sing)) = zs := by rw [cp_join, flat_sings]
      refine ⟨_, D, zs.map sing, rfl, rfl, .inl (SqL.of f1'), ?_, ?_⟩
      · rw [sum_sing, List.length_map]
        show zs.length + zs.length * 0 ≤ _
        omega
      generalize PySem.Txt.join "" (zs.map sing) = x at ew ⊢
      have lx : x.length ≤ 40 := by rw [len_cp, ew]; exact l40
      have kH := k6'.trans f5
      refine ⟨_, rfl, d, g, _, rfl, by decide, by decide, f4, fun r2 H8 r20 r2b hD8 k8 => ⟨rfl, _, rfl, ?_⟩⟩
      have kH8 := kH.trans k8
      refine ite2 (fun _ => ?_) (fun _ => ?_)
      · refine ⟨⟨_, rfl⟩, _, rfl, x, rfl, by omega, fun s us hs hnd hmem => ?_⟩
        have sub : ∀ y ∈ us, y ∈ zs.map sing := fun y hy => by
          have z := (hmem y).mp hy
          unfold parts at z
          rw [show x.cps.toList = zs from ew] at z
          exact z
        have l40' : us.length ≤ 40 := by
          have z := nodup_le us (zs.map sing) hnd sub
          rw [List.length_map] at z
          omega
        refine ⟨s, us, rfl, upd_same, by omega, fun ys p hp hso np => ?_⟩
        obtain ⟨vs, rfl, hvs⟩ := sings_of (ys := ys) (zs := zs) fun y hy => sub y (hp.mem_iff.mp hy)
        have lv : vs.length ≤ 40 := by
          have z := hp.length_eq
          rw [List.length_map] at z
          omega
        have ev : cp (PySem.Txt.join "" (vs.map sing)) = vs := by rw [cp_join, flat_sings]
        refine ⟨_, p, vs.map sing, rfl, rfl, .inl (SqL.of upd_same), ?_, fin _ _ ?_ ?_ ((hD8.same (same_new hs _)).same (same_new np _)) ((kH8.trans (.of (same_new hs _))).trans (.of (same_new np _)))⟩
        · rw [sum_sing, List.length_map]
          show vs.length + vs.length * 0 ≤ _
          omega
        · rw [len_cp, ev]; omega
        · rw [ev]
          exact fun c hc => f3 c (hvs c hc)
      · exact ⟨_, rfl, fin x H8 (by omega) (by rw [ew]; exact f3) hD8 kH8⟩
  · show tSeq _ _ _ _ H5
    refine ⟨Nat.zero_le _, fun x1 y1 => ?_⟩
    have s1 : Same H5 (upd H5 x1 (.tup [])) := same_new y1 _
    have e11 : upd H5 x1 (.tup []) x1 = some (.tup []) := upd_same
    have o11 : Off d g H x1 := ⟨hD5.dn y1, k5'.free (hD5.dn y1).1 (hD5.dn y1).2 y1⟩
    generalize upd H5 x1 (.tup []) = J1 at s1 e11 ⊢
    have t1 : Same H5 J1 := s1
    refine ⟨(by show 2 ≤ sizeLine; decide), fun x2 y2 => ?_⟩
    have s2 : Same J1 (upd J1 x2 (.tup [V.str "a", V.str "b"])) := same_new y2 _
    have e12 : upd J1 x2 (.tup [V.str "a", V.str "b"]) x2 = some (.tup [V.str "a", V.str "b"]) := upd_same
    have o12 : Off d g H x2 := ⟨hD5.dn (t1.free y2), k5'.free (hD5.dn (t1.free y2)).1 (hD5.dn (t1.free y2)).2 (t1.free y2)⟩
    generalize upd J1 x2 (.tup [V.str "a", V.str "b"]) = J2 at s2 e12 ⊢
    have t2 : Same H5 J2 := t1.trans s2
    refine ⟨(by show 1 ≤ sizeLine; decide), fun x3 y3 => ?_⟩
    have s3 : Same J2 (upd J2 x3 (.lst [V.str "a"])) := same_new y3 _
    have e13 : upd J2 x3 (.lst [V.str "a"]) x3 = some (.lst [V.str "a"]) := upd_same
    have o13 : Off d g H x3 := ⟨hD5.dn (t2.free y3), k5'.free (hD5.dn (t2.free y3)).1 (hD5.dn (t2.free y3)).2 (t2.free y3)⟩
    generalize upd J2 x3 (.lst [V.str "a"]) = J3 at s3 e13 ⊢
    have t3 : Same H5 J3 := t2.trans s3
    refine ⟨Nat.zero_le _, fun x4 y4 => ?_⟩
    have s4 : Same J3 (upd J3 x4 (.lst [])) := same_new y4 _
    have e14 : upd J3 x4 (.lst []) x4 = some (.lst []) := upd_same
    have o14 : Off d g H x4 := ⟨hD5.dn (t3.free y4), k5'.free (hD5.dn (t3.free y4)).1 (hD5.dn (t3.free y4)).2 (t3.free y4)⟩
    generalize upd J3 x4 (.lst []) = J4 at s4 e14 ⊢
    have t4 : Same H5 J4 := t3.trans s4
    intro x5 y5
    have s5 : Same J4 (upd J4 x5 (.dK [])) := same_new y5 _
    have e15 : upd J4 x5 (.dK []) x5 = some (.dK []) := upd_same
    have o15 : Off d g H x5 := ⟨hD5.dn (t4.free y5), k5'.free (hD5.dn (t4.free y5)).1 (hD5.dn (t4.free y5)).2 (t4.free y5)⟩
    generalize upd J4 x5 (.dK []) = J5 at s5 e15 ⊢
    have t5 : Same H5 J5 := t4.trans s5
    intro x6 y6
    refine ⟨upd_same, [(Sum.inr "a", .str "b")], rfl, by decide, ?_⟩
    rw [upd_upd]
    have s6 : Same J5 (upd J5 x6 (.dK (mergeK [] [(Sum.inr "a", .str "b")]))) := same_new y6 _
    have e16 : upd J5 x6 (.dK (mergeK [] [(Sum.inr "a", .str "b")])) x6 = some (.dK [(Sum.inr "a", .str "b")]) := upd_same
    have o16 : Off d g H x6 := ⟨hD5.dn (t5.free y6), k5'.free (hD5.dn (t5.free y6)).1 (hD5.dn (t5.free y6)).2 (t5.free y6)⟩
    generalize upd J5 x6 (.dK (mergeK [] [(Sum.inr "a", .str "b")])) = J6 at s6 e16 ⊢
    have t6 : Same H5 J6 := t5.trans s6
    refine ⟨_, rfl, (by show 1 ≤ sizeLine; decide), fun x7 y7 => ?_⟩
    have s7 : Same J6 (upd J6 x7 (.tup [V.str a])) := same_new y7 _
    have e17 : upd J6 x7 (.tup [V.str a]) x7 = some (.tup [V.str a]) := upd_same
    have o17 : Off d g H x7 := ⟨hD5.dn (t6.free y7), k5'.free (hD5.dn (t6.free y7)).1 (hD5.dn (t6.free y7)).2 (t6.free y7)⟩
    generalize upd J6 x7 (.tup [V.str a]) = J7 at s7 e17 ⊢
    have t7 : Same H5 J7 := t6.trans s7
    refine ⟨_, rfl, _, rfl, (by show 1 ≤ sizeLine; decide), fun x8 y8 => ?_⟩
    have s8 : Same J7 (upd J7 x8 (.lst [V.str a])) := same_new y8 _
    have e18 : upd J7 x8 (.lst [V.str a]) x8 = some (.lst [V.str a]) := upd_same
    have o18 : Off d g H x8 := ⟨hD5.dn (t7.free y8), k5'.free (hD5.dn (t7.free y8)).1 (hD5.dn (t7.free y8)).2 (t7.free y8)⟩
    generalize upd J7 x8 (.lst [V.str a]) = J8 at s8 e18 ⊢
    have t8 : Same H5 J8 := t7.trans s8
    refine ⟨(by show 2 ≤ sizeLine; decide), fun x9 y9 => ?_⟩
    have s9 : Same J8 (upd J8 x9 (.lst [V.str a, V.ref x8])) := same_new y9 _
    have e19 : upd J8 x9 (.lst [V.str a, V.ref x8]) x9 = some (.lst [V.str a, V.ref x8]) := upd_same
    have o19 : Off d g H x9 := ⟨hD5.dn (t8.free y9), k5'.free (hD5.dn (t8.free y9)).1 (hD5.dn (t8.free y9)).2 (t8.free y9)⟩
    generalize upd J8 x9 (.lst [V.str a, V.ref x8]) = J9 at s9 e19 ⊢
    have t9 : Same H5 J9 := t8.trans s9
    refine ⟨_, _, rfl, rfl, ⟨by decide, by decide, by decide⟩, (by show 1 ≤ sizeLine; decide), fun x10 y10 => ?_⟩
    have s10 : Same J9 (upd J9 x10 (.tup [V.str ""])) := same_new y10 _
    have e20 : upd J9 x10 (.tup [V.str ""]) x10 = some (.tup [V.str ""]) := upd_same
    have o20 : Off d g H x10 := ⟨hD5.dn (t9.free y10), k5'.free (hD5.dn (t9.free y10)).1 (hD5.dn (t9.free y10)).2 (t9.free y10)⟩
    generalize upd J9 x10 (.tup [V.str ""]) = J10 at s10 e20 ⊢
    have t10 : Same H5 J10 := t9.trans s10
    refine ⟨(by show 13 ≤ sizeLine; decide), fun l hl => ?_⟩
    have key : ∀ x ∈ [V.non, V.bl true, V.int 7, V.ref x1, V.ref x2, V.ref x3, V.ref x4, V.ref x5, V.ref x6, V.ref x7, V.ref x9, V.int (10 ^ 39), V.ref x10], ∃ D, Dt J10 (Off d g H) x D ∧ GoodV D := by
      refine List.forall_mem_cons.2 ⟨⟨_, .flat rfl, ⟨by decide +kernel, by decide +kernel, by decide +kernel, fun x e => nomatch e⟩⟩, ?_⟩
      refine List.forall_mem_cons.2 ⟨⟨_, .flat rfl, ⟨by decide +kernel, by decide +kernel, by decide +kernel, fun x e => nomatch e⟩⟩, ?_⟩
      refine List.forall_mem_cons.2 ⟨⟨_, .flat rfl, ⟨by decide +kernel, by decide +kernel, by decide +kernel, fun x e => nomatch e⟩⟩, ?_⟩
      refine List.forall_mem_cons.2 ⟨⟨_, .tup (s10 _ _ (s9 _ _ (s8 _ _ (s7 _ _ (s6 _ _ (s5 _ _ (s4 _ _ (s3 _ _ (s2 _ _ e11))))))))) o11 .nil, ⟨by decide +kernel, by decide +kernel, by decide +kernel, fun x e => nomatch e⟩⟩, ?_⟩
      refine List.forall_mem_cons.2 ⟨⟨_, .tup (s10 _ _ (s9 _ _ (s8 _ _ (s7 _ _ (s6 _ _ (s5 _ _ (s4 _ _ (s3 _ _ e12)))))))) o12 (.cons (.flat rfl) (.cons (.flat rfl) .nil)), ⟨by decide +kernel, by decide +kernel, by decide +kernel, fun x e => nomatch e⟩⟩, ?_⟩
      refine List.forall_mem_cons.2 ⟨⟨_, .lst (s10 _ _ (s9 _ _ (s8 _ _ (s7 _ _ (s6 _ _ (s5 _ _ (s4 _ _ e13))))))) o13 (.cons (.flat rfl) .nil), ⟨by decide +kernel, by decide +kernel, by decide +kernel, fun x e => nomatch e⟩⟩, ?_⟩
      refine List.forall_mem_cons.2 ⟨⟨_, .lst (s10 _ _ (s9 _ _ (s8 _ _ (s7 _ _ (s6 _ _ (s5 _ _ e14)))))) o14 .nil, ⟨by decide +kernel, by decide +kernel, by decide +kernel, fun x e => nomatch e⟩⟩, ?_⟩
      refine List.forall_mem_cons.2 ⟨⟨_, .dct (s10 _ _ (s9 _ _ (s8 _ _ (s7 _ _ (s6 _ _ e15))))) o15 .nil, ⟨by decide +kernel, by decide +kernel, by decide +kernel, fun x e => nomatch e⟩⟩, ?_⟩
      refine List.forall_mem_cons.2 ⟨⟨_, .dct (s10 _ _ (s9 _ _ (s8 _ _ (s7 _ _ e16)))) o16 (.cons (d := .str "b") rfl .nil), ⟨by decide +kernel, by decide +kernel, by decide +kernel, fun x e => nomatch e⟩⟩, ?_⟩
      refine List.forall_mem_cons.2 ⟨⟨_, .tup (s10 _ _ (s9 _ _ (s8 _ _ e17))) o17 (.cons (.flat rfl) .nil), good_tup1 ha h128⟩, ?_⟩
      refine List.forall_mem_cons.2 ⟨⟨_, .lst (s10 _ _ e19) o19 (.cons (.flat rfl) (.cons (.lst (s10 _ _ (s9 _ _ e18)) o18 (.cons (.flat rfl) .nil)) .nil)), good_lst2 ha h128⟩, ?_⟩
      refine List.forall_mem_cons.2 ⟨⟨_, .flat rfl, ⟨by decide +kernel, by decide +kernel, by decide +kernel, fun x e => nomatch e⟩⟩, ?_⟩
      refine List.forall_mem_cons.2 ⟨⟨_, .tup e20 o20 (.cons (.flat rfl) .nil), ⟨by decide +kernel, by decide +kernel, by decide +kernel, fun x e => nomatch e⟩⟩, fun x z => nomatch z⟩
    have oL := hD5.dn (t10.free hl)
    have s7' := same_new hl (.lst [V.non, V.bl true, V.int 7, V.ref x1, V.ref x2, V.ref x3, V.ref x4, V.ref x5, V.ref x6, V.ref x7, V.ref x9, V.int (10 ^ 39), V.ref x10])
    have e7 := upd_same (H := J10) (a := l) (o := .lst [V.non, V.bl true, V.int 7, V.ref x1, V.ref x2, V.ref x3, V.ref x4, V.ref x5, V.ref x6, V.ref x7, V.ref x9, V.int (10 ^ 39), V.ref x10])
    have key7 := fun x hx => (key x hx).imp fun D z => (⟨z.1.mono (fun a o _ e => s7' a o e) (fun _ _ e _ => e), z.2⟩ : Dt (upd J10 l (.lst [V.non, V.bl true, V.int 7, V.ref x1, V.ref x2, V.ref x3, V.ref x4, V.ref x5, V.ref x6, V.ref x7, V.ref x9, V.int (10 ^ 39), V.ref x10])) (Off d g H) x D ∧ GoodV D)
    have t7 := t10.trans s7'
    have hD7 := hD5.same t7
    refine ⟨_, rfl, _, rfl, d, g, l, _, rfl, SqL.of e7, oL.1, oL.2, (fun z => nomatch z), (by show 13 < 1000000; decide), hD7, fun x H9 hx hD9 k9 => ?_⟩
    obtain ⟨D, hd, hg⟩ := key7 x hx
    exact q x D H9 (hd.mono (fun a o sa e => k9 a o sa.1.1 sa.1.2 e) (fun _ _ e _ => e)) hg hD9 ((k5'.trans (Keeps.of t7)).trans k9)
end
end Vf

set_option Elab.async false
set_option linter.all false
set_option maxRecDepth 100000
set_option maxHeartbeats 4000000
namespace Vf
open PySem PySem.Spec PyProof.Rows L2 L2.Vx Vs
open PySem.Froz (sing)
abbrev sLaw : Stmt := top 13
/-! ### calls by keyword alone; a text so many times -/
section
variable {X : Cx} {CX : CXT} {k : Nat} {f : Addr} {fd : FuncData} {ps ks : List Str} {sp : Sp} {E : XK} {x : Str} {p pos : Pos} {kws : List Keyword} {tk : TA} {g : List Value → List Value → List Value} {gV : List V → List V → List V}
def tCallK0 (sp : Sp) (gV : List V → List V → List V) (E : XK) (tk : TA) : TE := fun σ H Q => tk σ H fun zs H2 => sp (gV [] zs) H2 Q E
theorem pe_callK0 (F : FnOk X.prog X.w X.K X.mg X.base CX k f fd ps sp) (hr : Room k X.A) (hm : X.mg x = some (.ref f)) (hk : PySem.W.keepIn X.K (.ref f) = true) (hb : KBinds X.K fd ps ks g gV) (hx : Passes CX X E) (hkw : PK X kws tk)
    (hg : Gl X x := by rfl) (hall : (backToKw pos (keywordEach kws X.env)).all (·.1.isSome) = true := by rfl) (hks : (backToKw pos (keywordEach kws X.env)).filterMap (·.1) = ks := by rfl) (hdb : (x == ("__debug__" : Str)) = false := by decide)
    (hpl : ((backTo pos (starEach [] X.env)).any (·.1) || (backToKw pos (keywordEach kws X.env)).any (·.1.isNone)) = false := by rfl) : PE X (.Call (.Name x p) [] kws pos) (tCallK0 sp gV E tk) := by
  refine ⟨fun pins s σ H Q I h => ?_⟩
  refine wpAny_Call_Name_kw (ld_glob I hg hm ?_ hdb)
  refine PySem.W.callWith_KW0 (h₀ := X.base) I.ok.mod.kin hk hall (thn (hkw.run pos pins s σ H _ I h) fun ws s2 ⟨zs, H2, I2, rz, q2⟩ => ⟨I2.kIn, ?_⟩) hpl
  rw [hks]
  exact run_fnk F hr hb hx I2 .nil rz q2
theorem op_mul_str : OpR X (binaryOp .Mult) (fun x y H Q => ∃ a n, x = .str a ∧ y = .int n ∧ MulOk a n ∧ Q (.str (PySem.Txt.mul a n)) H) := by
  intro pins s σ H x y v u Q I rx ry h
  obtain ⟨a, n, rfl, rfl, ok, q⟩ := h
  obtain ⟨t, rfl⟩ := rx
  obtain ⟨t', rfl⟩ := ry
  exact SB.mul ok fun t' k => ⟨.str _, H, I.tok _, ⟨_, rfl⟩, q⟩
end
def gOne {α : Type} : List α → List α → List α
  | [], ws => ws
  | _ :: _, _ => []
def gTwo {α : Type} : List α → List α → List α
  | [], [a, b] => [b, a]
  | _, _ => []
section
variable {K : PySem.W.Frag} {f : Addr} {fd : FuncData}
theorem kb_let (F : Fun K "is_letters" "is_letters" sLet f fd) : KBinds K fd ["thing"] ["thing"] gOne gOne := by
  obtain ⟨oc, od, kV, doc, pm, an, cdv, ct, osl, rfl, lk, hcd⟩ := F.ex
  refine ⟨fun s us ws _ hl => ?_, fun r1 r2 => ?_⟩
  · match us, ws, hl with
    | [], [_], _ => exact .of_eq rfl
  · cases r1 with
    | nil => exact r2
    | cons _ _ => exact .nil
theorem kb_text (F : Fun K "is_text" "is_text" sText f fd) : KBinds K fd ["letters", "thing"] ["thing", "letters"] gTwo gTwo := by
  obtain ⟨oc, od, kV, doc, pm, an, cdv, ct, osl, rfl, lk, hcd⟩ := F.ex
  refine ⟨fun s us ws _ hl => ?_, fun r1 r2 => ?_⟩
  · match us, ws, hl with
    | [], [_, _], _ => exact .of_eq rfl
  · cases r1 with
    | nil => 
      cases r2 with
      | nil => exact .nil
      | cons a t =>
        cases t with
        | nil => exact .nil
        | cons b t =>
          cases t with
          | nil => exact .cons b (.cons a .nil)
          | cons _ _ => exact .nil
    | cons _ _ => exact .nil
end
/-! ### the value drawn: a text, or no string -/
def textOf : PyData → Option Str
  | .str x => some x
  | _ => none
theorem dt_strOr {K : PySem.W.Frag} {H : Hp} {S : Addr → Prop} {v : V} {D : PyData} (h : Dt H S v D) (g : GoodV D) : StrOr K H v (textOf D) := by
  cases h with
  | flat e =>
    cases v with
    | non => cases (show D = .none from e); exact ⟨_, .base .non, kit_ty (show kitB "NoneType" "str" = some false by decide +kernel)⟩
    | bl b => cases (show D = .bool b from e); exact ⟨_, .base (.bl b), kit_ty (show kitB "bool" "str" = some false by decide +kernel)⟩
    | int i => cases (show D = .int i from e); exact ⟨_, .base (.int i), kit_ty (show kitB "int" "str" = some false by decide +kernel)⟩
    | str x =>
      cases (show D = .str x from e)
      have z := g.tx x rfl
      exact ⟨rfl, Nat.le_trans z.1 (by decide), z.2⟩
    | byt b => exact (show False from e).elim
    | flt b => exact (show False from e).elim
    | ref b => exact (show False from e).elim
    | ty b => exact (show False from e).elim
  | lst e _ _ => exact ⟨_, .base (.lst e), kit_ty (show kitB "list" "str" = some false by decide +kernel)⟩
  | tup e _ _ => exact ⟨_, .base (.tup e), kit_ty (show kitB "tuple" "str" = some false by decide +kernel)⟩
  | dct e _ _ => exact ⟨_, .base (.dK e), kit_ty (show kitB "dict" "str" = some false by decide +kernel)⟩
theorem shows_two (b c : Bool) : Shows (.list [.bool b, .bool c]) := by
  cases b <;> cases c <;> exact ⟨by decide +kernel, by decide +kernel, by decide +kernel⟩
theorem if_ {A B : Prop} {c : Bool} (e : c = false) (h : B) : if c = true then A else B := by
  rw [e]
  exact h
structure TxtL (mg : Str → Option Value) (fW fP fA fD fG fV fR fO fL fT : Addr) : Prop extends TxtV mg fW fP, TxtA mg fA where
  deck : mg "_law_deck" = some (.ref fD)
  signs : mg "_law_signs" = some (.ref fG)
  value : mg "_law_value" = some (.ref fV)
  are : mg "_law_are_signs" = some (.ref fR)
  word : mg "_law_is_word" = some (.ref fO)
  let_ : mg "is_letters" = some (.ref fL)
  text : mg "is_text" = some (.ref fT)
  rep : mg "repr" = none
def spLaw (K : PySem.W.Frag) : Sp := fun vs H Q _ => ∃ (a : Addr) (ns : List Int), vs = [.ref a] ∧ SqL K H a (ns.map V.int) ∧ ns.length ≤ 63 ∧ ∀ H', Q (.bl true) H'
theorem word_zs (y : Str) (h : (cp y).all (fun c => c == 122) = true) : (some y).elim false (wordB "z") = true := by
  show (cp y).all _ = true
  refine List.all_eq_true.mpr fun c hc => ?_
  have z := List.all_eq_true.mp h c hc
  simp at z
  subst z
  decide +kernel
theorem mul_ok : MulOk "z" 2000 := ⟨by decide +kernel, fun _ _ => by decide +kernel, fun _ _ => by decide +kernel⟩
theorem z2000 : (PySem.Txt.mul "z" 2000).length = 2000 ∧ (cp (PySem.Txt.mul "z" 2000)).all (fun c => c == 122) = true := by decide +kernel
section
variable {P : Program} {w : World} {K : PySem.W.Frag} {mg : Str → Option Value} {base : Heap} {fW fP fA fD fG fV fR fO fL fT : Addr} {fdD fdG fdV fdR fdO fdL fdT : FuncData}
theorem scLaw : FnScope ["_law_script", "_law_deck_here", "_law_go", "_law_signs_here", "_law_it", "_law_seen", "_law_due"] ["_law_script"] (defScope sLaw) := ⟨rfl, rfl, rfl, by decide +kernel, rfl, by decide +kernel, by decide +kernel⟩
theorem ok_law {f : Addr} {fd : FuncData} (F : Fun K "law" "law" sLaw f fd) (T : TxtL mg fW fP fA fD fG fV fR fO fL fT)
    (GD : FnOk P w K mg base CX0 1 fD fdD ["_law_script"] (spDeck K)) (bD : Binds K fdD ["_law_script"] []) (kD : PySem.W.keepIn K (.ref fD) = true)
    (GG : FnOk P w K mg base CX0 2 fG fdG ["_law_deck_here", "_law_limit"] spSigns) (bG : Binds K fdG ["_law_deck_here", "_law_limit"] []) (kG : PySem.W.keepIn K (.ref fG) = true)
    (GV : FnOk P w K mg base CX0 3 fV fdV ["_law_deck_here", "_law_signs_here"] spValue) (bV : Binds K fdV ["_law_deck_here", "_law_signs_here"] []) (kV : PySem.W.keepIn K (.ref fV) = true)
    (GR : FnOk P w K mg base CX0 1 fR fdR ["_law_it"] (spLet K letB)) (bR : Binds K fdR ["_law_it"] []) (kR : PySem.W.keepIn K (.ref fR) = true)
    (GO : FnOk P w K mg base CX0 1 fO fdO ["_law_signs_here", "_law_it"] (spText K wordB)) (bO : Binds K fdO ["_law_signs_here", "_law_it"] []) (kO : PySem.W.keepIn K (.ref fO) = true)
    (GL : FnOk P w K mg base CX0 2 fL fdL ["thing"] (spLet K letB)) (bL : Binds K fdL ["thing"] []) (kL : PySem.W.keepIn K (.ref fL) = true) (qL : KBinds K fdL ["thing"] ["thing"] gOne gOne)
    (GT : FnOk P w K mg base CX0 1 fT fdT ["letters", "thing"] (spText K wordB)) (bT : Binds K fdT ["letters", "thing"] []) (kT : PySem.W.keepIn K (.ref fT) = true) (qT : KBinds K fdT ["letters", "thing"] ["thing", "letters"] gTwo gTwo) :
    FnG P w K mg base 4 f fd ["_law_script"] (spLaw K) := by
  refine FunG F scLaw (fun vs H Q E h => ?_) (fun cdv A outer s H vs Q E hr hg h => ?_)
  · obtain ⟨a, ns, rfl, _⟩ := h
    rfl
  obtain ⟨a, ns, rfl, hS, h63, k⟩ := h
  have hr1 : Room 1 _ := hr.mono (by decide)
  have hr2 : Room 2 _ := hr.mono (by decide)
  have hu : (A.deeper (envOfC "law" (defScope sLaw) s.heap.objs.size f cdv)).units + 100 < cLine := by
    have z := hr.un
    omega
  refine ⟨_, pss_cons (ps_set (i := 1) scLaw.nd rfl (Or.inl rfl) (pe_call GD hr1 rfl T.deck kD bD .nil pass0 (pa_cons (pv 0) pa_nil)))
    (pss_cons (ps_for PassesOwn.never rfl (pi_range1 rfl T.range (pa_cons pe_int pa_nil)) (pg_name (i := 2) scLaw.nd rfl (Or.inl rfl))
      (pss_cons (ps_set (i := 3) scLaw.nd rfl (Or.inl rfl) (pe_call GG hr2 rfl T.signs kG bG .nil pass0 (pa_cons (pv 1) (pa_cons pe_int pa_nil))))
      (pss_cons (ps_set (i := 4) scLaw.nd rfl (Or.inl rfl) (pe_call GV hr rfl T.value kV bV .nil pass0 (pa_cons (pv 1) (pa_cons (pv 3) pa_nil))))
      (pss_cons (ps_par (i := 5) (j := 6) rfl scLaw.nd rfl rfl (by decide) rfl rfl (pa_cons (pe_callB (call_rep hg hu (fun _ => True)) (by rfl) T.rep (by decide +kernel) (pa_cons (pv 4) pa_nil))
          (pa_cons (pe_lst (pa_cons (pe_call GR hr1 rfl T.are kR bR .nil pass0 (pa_cons (pv 4) pa_nil)) (pa_cons (pe_call GO hr1 rfl T.word kO bO .nil pass0 (pa_cons (pv 3) (pa_cons (pv 4) pa_nil))) pa_nil))) pa_nil)) (by rfl))
      (pss_cons (ps_if (PW.pt (pw_or (pt_cmpR op_ne
            (pe_callB (call_rep hg hu (fun _ => True)) (by rfl) T.rep (by decide +kernel) (pa_cons (pe_lst (pa_cons (pe_call GL hr2 rfl T.let_ kL bL .nil pass0 (pa_cons (pv 4) pa_nil)) (pa_cons (pe_call GT hr1 rfl T.text kT bT .nil pass0 (pa_cons (pv 3) (pa_cons (pv 4) pa_nil))) pa_nil))) pa_nil))
            (pe_callB (call_rep hg hu (fun _ => True)) (by rfl) T.rep (by decide +kernel) (pa_cons (pv 6) pa_nil)) (nomark _))
          (pw_or1 (pt_cmpR op_ne (pe_callB (call_rep hg hu (fun _ => True)) (by rfl) T.rep (by decide +kernel) (pa_cons (pv 4) pa_nil)) (pv 5) (nomark _))))) (pss_one (ps_ret pe_bl)) pss_nil)
      (pss_one (ps_if (PW.pt (pw_or (pt_cmpR op_ne
            (pe_callB (call_rep hg hu (fun _ => True)) (by rfl) T.rep (by decide +kernel) (pa_cons (pe_lst (pa_cons (pe_callK0 GL hr2 T.let_ kL qL pass0 (pk_cons (pv 4) pk_nil)) (pa_cons (pe_callK0 GT hr1 T.text kT qT pass0 (pk_cons (pv 4) (pk_cons (pv 3) pk_nil))) pa_nil))) pa_nil))
            (pe_callB (call_rep hg hu (fun _ => True)) (by rfl) T.rep (by decide +kernel) (pa_cons (pv 6) pa_nil)) (nomark _))
          (pw_or1 (pt_not (pt_val (pe_call GL hr2 rfl T.let_ kL bL .nil pass0 (pa_cons (pv 3) pa_nil))))))) (pss_one (ps_ret pe_bl)) pss_nil)))))))
    (pss_one (ps_ret (pe_and (pe_call GL hr2 rfl T.let_ kL bL .nil pass0 (pa_cons pe_str pa_nil)) (pe_and (pe_not (pe_call GL hr2 rfl T.let_ kL bL .nil pass0 (pa_cons pe_str pa_nil)))
      (pe_one (pe_call GT hr1 rfl T.text kT bT .nil pass0 (pa_cons pe_str (pa_cons (pe_op op_mul_str pe_str pe_int) pa_nil))))))))), ?_⟩
  refine ⟨_, rfl, a, ns, rfl, hS, h63, fun d g H1 s1 nd ng hD1 => ?_⟩
  refine ⟨30, rfl, by decide, by decide, for_range (lo := 0) (n := 30) (fun i σ H' => ∃ v2 v3 v4 v5 v6, σ = [some (.ref a), some (.ref d), v2, v3, v4, v5, v6] ∧ DeckAt H' d g) ⟨none, none, none, none, none, rfl, hD1⟩ ?_ ?_⟩
  · rintro i σ H' hi ⟨v2, v3, v4, v5, v6, rfl, hD'⟩
    refine ⟨_, rfl, d, g, rfl, hD', fun x H2 lx x4 x128 hD2 k2 => ?_⟩
    refine ⟨_, rfl, _, rfl, d, g, x, rfl, hD2, x4, x128, fun v D H3 hdv gv hD3 k3 => ?_⟩
    have hsh : Shows D := ⟨gv.sh, Nat.le_trans gv.len (by decide), Nat.le_trans gv.dep (by decide)⟩
    have dt : ∀ H', Same H3 H' → Dt H' (fun _ => True) v D := fun H' s => hdv.mono (fun _ _ _ e => s _ _ e) (fun _ _ _ _ => trivial)
    have so : ∀ H', Same H3 H' → StrOr K H' v (textOf D) := fun H' s => dt_strOr (dt H' s) gv
    refine ⟨_, rfl, v, D, rfl, dt _ (.refl _), hsh, _, rfl, v, textOf D, rfl, so _ (.refl _), fun H4 s4 => ⟨_, rfl, _, rfl, x, v, textOf D, rfl, so _ s4, x4, fun H5 s5 => ⟨by show 2 ≤ sizeLine; decide, fun p hp => ?_⟩⟩⟩
    have e6 : upd H5 p (.lst [.bl ((textOf D).elim false letB), .bl ((textOf D).elim false (wordB x))]) p = some (.lst [.bl ((textOf D).elim false letB), .bl ((textOf D).elim false (wordB x))]) := upd_same
    have s6 := (s4.trans s5).trans (same_new hp (.lst [.bl ((textOf D).elim false letB), .bl ((textOf D).elim false (wordB x))]))
    refine ⟨_, _, rfl, ?_⟩
    show tSeq _ _ _ _ (upd H5 p (.lst [.bl ((textOf D).elim false letB), .bl ((textOf D).elim false (wordB x))]))
    generalize upd H5 p (.lst [.bl ((textOf D).elim false letB), .bl ((textOf D).elim false (wordB x))]) = H6 at e6 s6 ⊢
    have two : ∀ (b c : Bool) (H' : Hp) (q : Addr), H' q = some (.lst [.bl b, .bl c]) → Dt H' (fun _ => True) (.ref q) (.list [.bool b, .bool c]) := fun b c H' q e => .lst e trivial (.cons (.flat rfl) (.cons (.flat rfl) .nil))
    refine ⟨_, rfl, v, textOf D, rfl, so _ s6, fun H7 s7 => ⟨_, rfl, _, rfl, x, v, textOf D, rfl, so _ (s6.trans s7), x4, fun H8 s8 => ⟨by show 2 ≤ sizeLine; decide, fun p2 hp2 => ?_⟩⟩⟩
    have s9 := (s7.trans s8).trans (same_new hp2 (.lst [.bl ((textOf D).elim false letB), .bl ((textOf D).elim false (wordB x))]))
    refine ⟨_, _, rfl, two _ _ _ _ upd_same, shows_two _ _, _, rfl, _, _, rfl, two _ _ _ _ (s9 _ _ e6), shows_two _ _, rfl, _, rfl, if_ (by simp) ?_⟩
    refine ⟨_, rfl, v, D, rfl, dt _ (s6.trans s9), hsh, _, rfl, rfl, _, rfl, if_ (by simp) ?_⟩
    have s10 := s6.trans s9
    have e9 := s9 _ _ e6
    show tSeq _ _ _ _ _
    generalize upd H8 p2 (.lst [.bl ((textOf D).elim false letB), .bl ((textOf D).elim false (wordB x))]) = H9 at e9 s10 ⊢
    refine ⟨_, rfl, v, textOf D, rfl, so _ s10, fun H10 s11 => ⟨_, rfl, _, rfl, x, v, textOf D, rfl, so _ (s10.trans s11), x4, fun H11 s12 => ⟨by show 2 ≤ sizeLine; decide, fun p3 hp3 => ?_⟩⟩⟩
    have s13 := (s11.trans s12).trans (same_new hp3 (.lst [.bl ((textOf D).elim false letB), .bl ((textOf D).elim false (wordB x))]))
    refine ⟨_, _, rfl, two _ _ _ _ upd_same, shows_two _ _, _, rfl, _, _, rfl, two _ _ _ _ (s13 _ _ e9), shows_two _ _, rfl, _, rfl, if_ (by simp) ?_⟩
    refine ⟨_, rfl, .str x, some x, rfl, ⟨rfl, Nat.le_trans x4 (by decide), x128⟩, fun H12 s14 => ⟨_, rfl, if_ (show (!letB x) = false by rw [lx]; rfl) ?_⟩⟩
    exact ⟨_, _, _, _, _, rfl, hD3.same ((s10.trans s13).trans s14)⟩
  · rintro σ H2 ⟨v2, v3, v4, v5, v6, rfl, hD2⟩
    refine ⟨.str "abcd", some "abcd", rfl, ⟨rfl, by decide +kernel, by decide +kernel⟩, fun H3 s3 => ⟨letB "abcd", rfl, ?_⟩⟩
    rw [show letB "abcd" = true by decide +kernel]
    refine ⟨.str "abcde", some "abcde", rfl, ⟨rfl, by decide +kernel, by decide +kernel⟩, fun H4 s4 => ⟨letB "abcde", rfl, _, rfl, ?_⟩⟩
    rw [show (!letB "abcde") = true by decide +kernel]
    refine ⟨"z", 2000, rfl, rfl, mul_ok, "z", .str (PySem.Txt.mul "z" 2000), some (PySem.Txt.mul "z" 2000), rfl, ⟨rfl, by rw [z2000.1]; decide, fun c hc => ?_⟩, by decide +kernel, fun H5 s5 => ?_⟩
    · have z := List.all_eq_true.mp z2000.2 c hc
      simp at z
      omega
    · rw [word_zs _ z2000.2]
      exact k H5
end
end Vf

set_option Elab.async false
set_option linter.all false
set_option maxRecDepth 100000
set_option maxHeartbeats 4000000
namespace Vf
open PySem PySem.Spec PyProof.Rows L2 L2.Vx
section
variable {P : Program} {w : World} {K : PySem.W.Frag} {mg : Str → Option Value} {base : Heap}
theorem all_mk {l : PySem.W.OpenLaw} {h : Heap} {fa : Addr} (X : K.In h) (G : h.Ns mainGlobals mg) (hfa : mg "law" = some (.ref fa))
    {fA : Addr} {ocA : Value} {odA anA : Option Addr} {slA : Array (Option Value)} {kVA dcA pmA cdA ctA : Value} {fL : Addr} {ocL : Value} {odL anL : Option Addr} {slL : Array (Option Value)} {kVL dcL pmL cdL ctL : Value} {fT : Addr} {ocT : Value} {odT anT : Option Addr} {slT : Array (Option Value)} {kVT dcT pmT cdT ctT : Value} {fD : Addr} {ocD : Value} {odD anD : Option Addr} {slD : Array (Option Value)} {kVD dcD pmD cdD ctD : Value} {fW : Addr} {ocW : Value} {odW anW : Option Addr} {slW : Array (Option Value)} {kVW dcW pmW cdW ctW : Value} {fP : Addr} {ocP : Value} {odP anP : Option Addr} {slP : Array (Option Value)} {kVP dcP pmP cdP ctP : Value} {fG : Addr} {ocG : Value} {odG anG : Option Addr} {slG : Array (Option Value)} {kVG dcG pmG cdG ctG : Value} {fV : Addr} {ocV : Value} {odV anV : Option Addr} {slV : Array (Option Value)} {kVV dcV pmV cdV ctV : Value} {fR : Addr} {ocR : Value} {odR anR : Option Addr} {slR : Array (Option Value)} {kVR dcR pmR cdR ctR : Value} {fO : Addr} {ocO : Value} {odO anO : Option Addr} {slO : Array (Option Value)} {kVO dcO pmO cdO ctO : Value} {fX : Addr} {ocX : Value} {odX anX : Option Addr} {slX : Array (Option Value)} {kVX dcX pmX cdX ctX : Value}
    (aA : PySem.W.nsIn K mainGlobals "is_ascending" = some (some (.ref fA)))
    (lA : K.lookup fA = some ⟨ocA, odA, .func (PySem.W.fnOf "is_ascending" "is_ascending" (defArgs sAsc) (defBody sAsc) (defScope sAsc) .none kVA dcA pmA anA cdA ctA), slA⟩)
    (cA : PySem.W.codeIn K cdA "is_ascending" = true)
    (kA : PySem.W.keepIn K (.ref fA) = true)
    (aL : PySem.W.nsIn K mainGlobals "is_letters" = some (some (.ref fL)))
    (lL : K.lookup fL = some ⟨ocL, odL, .func (PySem.W.fnOf "is_letters" "is_letters" (defArgs sLet) (defBody sLet) (defScope sLet) .none kVL dcL pmL anL cdL ctL), slL⟩)
    (cL : PySem.W.codeIn K cdL "is_letters" = true)
    (kL : PySem.W.keepIn K (.ref fL) = true)
    (aT : PySem.W.nsIn K mainGlobals "is_text" = some (some (.ref fT)))
    (lT : K.lookup fT = some ⟨ocT, odT, .func (PySem.W.fnOf "is_text" "is_text" (defArgs sText) (defBody sText) (defScope sText) .none kVT dcT pmT anT cdT ctT), slT⟩)
    (cT : PySem.W.codeIn K cdT "is_text" = true)
    (kT : PySem.W.keepIn K (.ref fT) = true)
    (aD : PySem.W.nsIn K mainGlobals "_law_deck" = some (some (.ref fD)))
    (lD : K.lookup fD = some ⟨ocD, odD, .func (PySem.W.fnOf "_law_deck" "_law_deck" (defArgs sDeck) (defBody sDeck) (defScope sDeck) .none kVD dcD pmD anD cdD ctD), slD⟩)
    (cD : PySem.W.codeIn K cdD "_law_deck" = true)
    (kD : PySem.W.keepIn K (.ref fD) = true)
    (aW : PySem.W.nsIn K mainGlobals "_law_draw" = some (some (.ref fW)))
    (lW : K.lookup fW = some ⟨ocW, odW, .func (PySem.W.fnOf "_law_draw" "_law_draw" (defArgs sDraw) (defBody sDraw) (defScope sDraw) .none kVW dcW pmW anW cdW ctW), slW⟩)
    (cW : PySem.W.codeIn K cdW "_law_draw" = true)
    (kW : PySem.W.keepIn K (.ref fW) = true)
    (aP : PySem.W.nsIn K mainGlobals "_law_pick" = some (some (.ref fP)))
    (lP : K.lookup fP = some ⟨ocP, odP, .func (PySem.W.fnOf "_law_pick" "_law_pick" (defArgs sPick) (defBody sPick) (defScope sPick) .none kVP dcP pmP anP cdP ctP), slP⟩)
    (cP : PySem.W.codeIn K cdP "_law_pick" = true)
    (kP : PySem.W.keepIn K (.ref fP) = true)
    (aG : PySem.W.nsIn K mainGlobals "_law_signs" = some (some (.ref fG)))
    (lG : K.lookup fG = some ⟨ocG, odG, .func (PySem.W.fnOf "_law_signs" "_law_signs" (defArgs sSigns) (defBody sSigns) (defScope sSigns) .none kVG dcG pmG anG cdG ctG), slG⟩)
    (cG : PySem.W.codeIn K cdG "_law_signs" = true)
    (kG : PySem.W.keepIn K (.ref fG) = true)
    (aV : PySem.W.nsIn K mainGlobals "_law_value" = some (some (.ref fV)))
    (lV : K.lookup fV = some ⟨ocV, odV, .func (PySem.W.fnOf "_law_value" "_law_value" (defArgs sValue) (defBody sValue) (defScope sValue) .none kVV dcV pmV anV cdV ctV), slV⟩)
    (cV : PySem.W.codeIn K cdV "_law_value" = true)
    (kV : PySem.W.keepIn K (.ref fV) = true)
    (aR : PySem.W.nsIn K mainGlobals "_law_are_signs" = some (some (.ref fR)))
    (lR : K.lookup fR = some ⟨ocR, odR, .func (PySem.W.fnOf "_law_are_signs" "_law_are_signs" (defArgs sAre) (defBody sAre) (defScope sAre) .none kVR dcR pmR anR cdR ctR), slR⟩)
    (cR : PySem.W.codeIn K cdR "_law_are_signs" = true)
    (kR : PySem.W.keepIn K (.ref fR) = true)
    (aO : PySem.W.nsIn K mainGlobals "_law_is_word" = some (some (.ref fO)))
    (lO : K.lookup fO = some ⟨ocO, odO, .func (PySem.W.fnOf "_law_is_word" "_law_is_word" (defArgs sWord) (defBody sWord) (defScope sWord) .none kVO dcO pmO anO cdO ctO), slO⟩)
    (cO : PySem.W.codeIn K cdO "_law_is_word" = true)
    (kO : PySem.W.keepIn K (.ref fO) = true)
    (aX : PySem.W.nsIn K mainGlobals "law" = some (some (.ref fX)))
    (lX : K.lookup fX = some ⟨ocX, odX, .func (PySem.W.fnOf "law" "law" (defArgs sLaw) (defBody sLaw) (defScope sLaw) .none kVX dcX pmX anX cdX ctX), slX⟩)
    (cX : PySem.W.codeIn K cdX "law" = true)
    (kX : PySem.W.keepIn K (.ref fX) = true)
    (z_list : PySem.W.nsIn K mainGlobals "list" = some none)
    (z_int : PySem.W.nsIn K mainGlobals "int" = some none)
    (z_len : PySem.W.nsIn K mainGlobals "len" = some none)
    (z_range : PySem.W.nsIn K mainGlobals "range" = some none)
    (z_sorted : PySem.W.nsIn K mainGlobals "sorted" = some none)
    (z_set : PySem.W.nsIn K mainGlobals "set" = some none)
    (z_all : PySem.W.nsIn K mainGlobals "all" = some none)
    (z_zip : PySem.W.nsIn K mainGlobals "zip" = some none)
    (z_isinstance : PySem.W.nsIn K mainGlobals "isinstance" = some none)
    (z_str : PySem.W.nsIn K mainGlobals "str" = some none)
    (z_repr : PySem.W.nsIn K mainGlobals "repr" = some none) :
    ∃ fd : FuncData, (∀ (s : Shared) (v : Value), BindsTo s fd ⟨[v], []⟩ [("_law_script", v)]) ∧ ∀ base : Heap, K.In base → base.Ns mainGlobals mg → FnG l.prog w K mg base 4 fa fd ["_law_script"] (spLaw K) := by
  have e := hfa.symm.trans (PySem.W.mg_of X G aX)
  cases e
  have FA := fun_mk (st := sAsc) lA cA kA
  have bA := FA.binds (ps := ["things"]) fun _ _ _ _ _ _ us hl => match us, hl with | [_], _ => rfl
  have FL := fun_mk (st := sLet) lL cL kL
  have bL := FL.binds (ps := ["thing"]) fun _ _ _ _ _ _ us hl => match us, hl with | [_], _ => rfl
  have FT := fun_mk (st := sText) lT cT kT
  have bT := FT.binds (ps := ["letters", "thing"]) fun _ _ _ _ _ _ us hl => match us, hl with | [_, _], _ => rfl
  have FD := fun_mk (st := sDeck) lD cD kD
  have bD := FD.binds (ps := ["_law_script"]) fun _ _ _ _ _ _ us hl => match us, hl with | [_], _ => rfl
  have FW := fun_mk (st := sDraw) lW cW kW
  have bW := FW.binds (ps := ["_law_deck_here", "_law_below"]) fun _ _ _ _ _ _ us hl => match us, hl with | [_, _], _ => rfl
  have FP := fun_mk (st := sPick) lP cP kP
  have bP := FP.binds (ps := ["_law_deck_here", "_law_some"]) fun _ _ _ _ _ _ us hl => match us, hl with | [_, _], _ => rfl
  have FG := fun_mk (st := sSigns) lG cG kG
  have bG := FG.binds (ps := ["_law_deck_here", "_law_limit"]) fun _ _ _ _ _ _ us hl => match us, hl with | [_, _], _ => rfl
  have FV := fun_mk (st := sValue) lV cV kV
  have bV := FV.binds (ps := ["_law_deck_here", "_law_signs_here"]) fun _ _ _ _ _ _ us hl => match us, hl with | [_, _], _ => rfl
  have FR := fun_mk (st := sAre) lR cR kR
  have bR := FR.binds (ps := ["_law_it"]) fun _ _ _ _ _ _ us hl => match us, hl with | [_], _ => rfl
  have FO := fun_mk (st := sWord) lO cO kO
  have bO := FO.binds (ps := ["_law_signs_here", "_law_it"]) fun _ _ _ _ _ _ us hl => match us, hl with | [_, _], _ => rfl
  have FX := fun_mk (st := sLaw) lX cX kX
  refine ⟨PySem.W.fnOf "law" "law" (defArgs sLaw) (defBody sLaw) (defScope sLaw) .none kVX dcX pmX anX cdX ctX, fun s v => .of_eq rfl, fun base _ _ => ?_⟩
  have TD : TxtD mg fW := ⟨PySem.W.mg_none_of X G z_list, PySem.W.mg_none_of X G z_int, PySem.W.mg_none_of X G z_len, PySem.W.mg_of X G aW⟩
  have TS : TxtS mg fW := ⟨TD, PySem.W.mg_none_of X G z_range, PySem.W.mg_none_of X G z_sorted, PySem.W.mg_none_of X G z_set⟩
  have TV : TxtV mg fW fP := ⟨TS, PySem.W.mg_of X G aP⟩
  have TA : TxtA mg fA := ⟨PySem.W.mg_none_of X G z_all, PySem.W.mg_none_of X G z_zip, PySem.W.mg_none_of X G z_isinstance, PySem.W.mg_none_of X G z_str, PySem.W.mg_none_of X G z_len, PySem.W.mg_of X G aA⟩
  have TR : TxtR mg := ⟨PySem.W.mg_none_of X G z_isinstance, PySem.W.mg_none_of X G z_str, PySem.W.mg_none_of X G z_len, PySem.W.mg_none_of X G z_range, PySem.W.mg_none_of X G z_list⟩
  have TL : TxtL mg fW fP fA fD fG fV fR fO fL fT := { toTxtV := TV, all := TA.all, zip := TA.zip, isi := TA.isi, str := TA.str, asc := TA.asc, deck := PySem.W.mg_of X G aD, signs := PySem.W.mg_of X G aG, value := PySem.W.mg_of X G aV, are := PySem.W.mg_of X G aR, word := PySem.W.mg_of X G aO, let_ := PySem.W.mg_of X G aL, text := PySem.W.mg_of X G aT, rep := PySem.W.mg_none_of X G z_repr }
  have GW := ok_draw (P := l.prog) (w := w) (base := base) FW TD
  have GP := ok_pick (P := l.prog) (w := w) (base := base) FP FW bW TD
  have GA := ok_asc (P := l.prog) (w := w) (base := base) FA TA
  exact ok_law FX TL (ok_deck FD TD) bD FD.kp (ok_signs FG GW bW FW.kp TS) bG FG.kp (ok_value FV GW bW FW.kp GP bP FP.kp TV) bV FV.kp (ok_are FR TR) bR FR.kp (ok_word FO TR) bO FO.kp
    (ok_let FL GA bA FA.kp TA) bL FL.kp (kb_let FL) (ok_text FT TA) bT FT.kp (kb_text FT)
end
theorem walk {l : PySem.W.OpenLaw} {q : Program} {loose : List Str} {XP : (Str → Option Value) → Heap → Prop} {YP : World → Heap → Prop} {d : DefRec} {K : Params → PySem.W.Frag} (hn : l.most = some 63) (hdf : d.params.defaults = [])
    (hY : ∀ (w : World) (h : Heap), YP w h → (K w.params).In h)
    (F : ∀ (w : World) (mg : Str → Option Value) (fa : Addr) (h : Heap), (K w.params).In h → h.Ns mainGlobals mg → mg d.name = some (.ref fa) →
      ∃ fd : FuncData, (∀ (s : Shared) (u : Value), BindsTo s fd ⟨[u], []⟩ [("_law_script", u)]) ∧ ∀ base : Heap, (K w.params).In base → base.Ns mainGlobals mg → FnG l.prog w (K w.params) mg base 4 fa fd ["_law_script"] (spLaw (K w.params))) :
    PySem.W.WalkO q loose XP YP l.row.toRowW d [] (fun f vs => PySem.call f vs) :=
  walk_ofG (n := 63) (k := 4) (x := "_law_script") (sp := fun w => spLaw (K w.params)) hn (by decide) hdf ⟨rfl, by decide, by decide⟩ hY F (fun _ _ a ns hl _ hS => ⟨a, ns, rfl, hS, hl, fun _ => rfl⟩)
end Vf
open PySem PySem.W PyProof.Rows
set_option maxRecDepth 100000 in
set_option maxHeartbeats 0 in
theorem PySem.Challenge.cw_piecesseen_k02_letters_and_texts_of_any_holds : PySem.Challenge.rw_piecesseen_k02_letters_and_texts_of_any.Holds := by
  w_on; o_law; k_head; (case hw => w_witness2)
  k_fill
  refine Vf.walk (l := PySem.Challenge.rw_piecesseen_k02_letters_and_texts_of_any) rfl rfl (fun w h Y => PySem.W.kIn_of Y) ?F
  case F =>
    intro w mg fa h KX G hmg
    refine' Vf.all_mk KX G hmg ?aA ?lA ?cA ?kA ?aL ?lL ?cL ?kL ?aT ?lT ?cT ?kT ?aD ?lD ?cD ?kD ?aW ?lW ?cW ?kW ?aP ?lP ?cP ?kP ?aG ?lG ?cG ?kG ?aV ?lV ?cV ?kV ?aR ?lR ?cR ?kR ?aO ?lO ?cO ?kO ?aX ?lX ?cX ?kX ?z_list ?z_int ?z_len ?z_range ?z_sorted ?z_set ?z_all ?z_zip ?z_isinstance ?z_str ?z_repr
    (case aA => k_is)
    (case lA => k_is)
    (case cA => k_is)
    (case kA => k_is)
    (case aL => k_is)
    (case lL => k_is)
    (case cL => k_is)
    (case kL => k_is)
    (case aT => k_is)
    (case lT => k_is)
    (case cT => k_is)
    (case kT => k_is)
    (case aD => k_is)
    (case lD => k_is)
    (case cD => k_is)
    (case kD => k_is)
    (case aW => k_is)
    (case lW => k_is)
    (case cW => k_is)
    (case kW => k_is)
    (case aP => k_is)
    (case lP => k_is)
    (case cP => k_is)
    (case kP => k_is)
    (case aG => k_is)
    (case lG => k_is)
    (case cG => k_is)
    (case kG => k_is)
    (case aV => k_is)
    (case lV => k_is)
    (case cV => k_is)
    (case kV => k_is)
    (case aR => k_is)
    (case lR => k_is)
    (case cR => k_is)
    (case kR => k_is)
    (case aO => k_is)
    (case lO => k_is)
    (case cO => k_is)
    (case kO => k_is)
    (case aX => k_is)
    (case lX => k_is)
    (case cX => k_is)
    (case kX => k_is)
    (case z_list => k_is)
    (case z_int => k_is)
    (case z_len => k_is)
    (case z_range => k_is)
    (case z_sorted => k_is)
    (case z_set => k_is)
    (case z_all => k_is)
    (case z_zip => k_is)
    (case z_isinstance => k_is)
    (case z_str => k_is)
    (case z_repr => k_is)
