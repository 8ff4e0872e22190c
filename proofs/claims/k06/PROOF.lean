import PyProof.Rows.All
import Wide.All
import OpenK.AllK
import Wide.FinOn
import HandS.ForMost
import HandS.Strs
import HandS.SetFor
import HandS.SetTxt0
import HandS.Walk
import HandS.Style
import HandS.IsInst
import HandS.More
import HandS.ExcInit
import HandS.HotCalls
import HandS.WordsExc
import HandS.Codes
import PySem.Challenge.RW_piecesseen_k06_sets_of_texts
import HandS.DictComp
import HandS.SetKeys
import KE.GoesMore
import KE.GoesEnum
import HandS.Replace
import HandS.Zip
import HandS.TupAny
import HandS.StrMore
import PyProof.Rows.StrCut
import HandS.SortInts
import HandS.TupSets
import PyProof.SeqIndex
import HandS.Dict
import HandS.Text
import PyProof.StrLawsFrom
import PyProof.Rows.StrBetween
import PyProof.FitsInt
import PyProof.Rows.StrJoinMade
import HandS.TupLen
import PyProof.Rows.TupDisplay
import KE.KDictZip
import PyProof.P3Eq
import HandS.Property
import HandS.MakeKw
import HandS.MakeKwOnly
import HandS.Defaults
import OpenK.KOps
import OpenK.KWalk
import HandS.Deep
import HandS.ExcIs
import HandS.ExcOwn
import HandS.TryOnly
import KE.KExcInit
import KE.KExcIs
import KE.KExcMake
import HandS.ForExc
import HandS.TryMany
import HandS.ExcField
import KE.KOpsOwn
import KE.LtData
import PyProof.NeData
import KE.KCallOwn
import HandS.FStr
import HandS.Star
import HandS.GenList
import PyProof.ListNew
set_option Elab.async false
set_option linter.all false
set_option maxRecDepth 100000
set_option maxHeartbeats 4000000
namespace Vs
open PySem PySem.Spec PyProof.Rows L2
open PySem.Froz (SD sObj addTx tailTx sing TxOk)
/-! ### a set of texts, as it grows out of a text's signs -/
theorem tail_ris {ep : Nat} {es : Array (Int × Value)} {t : SetTable} {b : Bool} (r : Ris t.place.toList) : Ris (tailTx ep es t b).2.2.place.toList := by
  unfold tailTx
  split
  · exact relayAll_ris t es _
  · exact r
theorem tail_led {ep : Nat} {es : Array (Int × Value)} {t : SetTable} {b : Bool} : (tailTx ep es t b).2.2.led = t.led := by
  unfold tailTx
  split
  · exact relayAll_led t es _
  · rfl
theorem add_ris {h : Int} {v : Value} {D : SD} (r : Ris D.2.2.place.toList) : Ris (addTx h v D).2.2.place.toList := by
  unfold addTx
  refine tail_ris ?_
  have q := layNew_ris D.2.2 D.1 h v r
  split <;> exact q
theorem add_led {h : Int} {v : Value} {D : SD} : (addTx h v D).2.2.led = D.2.2.led := by
  unfold addTx
  refine tail_led.trans ?_
  have q := layNew_led D.2.2 D.1 h v
  split <;> exact q
/-- the payload D holds just the texts l, each once, and can be walked -/
structure Tx (P : Program) (w : World) (D : SD) (l : List Str) : Prop where
  ok : TxOk P w D l
  ris : Ris D.2.2.place.toList
  led : w.params.followText "set-order" = true ∨ D.2.2.led = true
  nd : l.Nodup
section
variable {P : Program} {w : World} {A : Around} {E : Value → Shared → Prop} {s : Shared}
theorem Tx.add {D : SD} {l : List Str} {k : Str} (u : Tok) (F : Tx P w D l) (hk : k ∉ l) : Tx P w (addTx (hashStr w k) (.str k u) D) (k :: l) :=
  ⟨Froz.add_ok u F.ok, add_ris F.ris, F.led.imp id fun z => add_led.trans z, List.nodup_cons.mpr ⟨hk, F.nd⟩⟩
/-- a text that is there already -/
theorem add_old {a : Addr} {T : String} {D : SD} {l : List Str} {k : Str} {u : Tok} {Q : Bool → Shared → Prop} (ho : s.heap.get? a = some (sObj T D)) (F : TxOk P w D l) (hk : k ∈ l) (hb : l.length < scanBound)
    (h : Q false s) : wpAny (model P w) A (setAddHashed a (.str k u) (hashStr w k)) Q E s := by
  obtain ⟨es, ep, t⟩ := D
  have hd : (sObj T (es, ep, t)).data = .set es ep t := rfl
  have hf : t.fits es.size = true := F.fit
  have hel : ElemsOf (strKind P w) es.toList := F.el
  have hb0 : es.size < scanBound := by
    have z : es.size = l.length := F.sz
    omega
  obtain ⟨e, he, hi⟩ := (F.mem k).mp hk
  unfold setAddHashed setAddHashedIn
  refine wpAny_holding (wpAny_bind (wpAny_setState_of ho hd hf ?_))
  dsimp only
  rw [byScan_of rfl hb0 hel]
  simp only [↓reduceIte]
  unfold setAddByScan
  refine wpAny_bind (wpAny_bind (wpAny_rule (wpAny_bind (wpAny_setScan_of (knd := strKind P w) (k := k) (Froz.is_str k u) ho hd hf hel ?_))))
  cases hr : List.findIdx? (fun e => (strKind P w).is k e.2) es.toList with
  | none =>
    have c := List.findIdx?_eq_none_iff.mp hr e he
    rw [hi] at c
    cases c
  | some j => exact wpAny_pure (wpAny_pure h)
/-- the texts of one sign each -/
abbrev parts (x : Str) : List Str := x.cps.toList.map sing
/-- the loop that puts them in -/
theorem loop_tx {I : Addr} {fp wr : List Addr} {G : Array GenState → Array GenState → Prop} {n : Nat} {x : Str} {St : Nat → Shared → Prop} {R : Result → Shared → Prop}
    (W : WalksS P w A.in1 I fp wr G n (SignAt x) St) (S : Addr) (hSf : S ∉ fp) (hn : n = x.cps.size) (hb : n + 1 < scanBound) :
    ∀ (m i : Nat) (s : Shared), n - i = m → i ≤ n → St i s → (∃ D l, s.heap.get? S = some (sObj "set" D) ∧ Tx P w D l ∧ l.length ≤ i ∧ ∀ k, k ∈ l ↔ k ∈ (parts x).take i) →
      (∀ s' D l, Moved (S :: wr) G s s' → s'.heap.get? S = some (sObj "set" D) → Tx P w D l → (∀ k, k ∈ l ↔ k ∈ parts x) → R (.ok (.ret .none)) s') →
      codeAny (model P w) A (.builtin "set.update.loop" ⟨[.ref S, .ref I], []⟩) R s := by
  have hSw : S ∉ wr := fun h => hSf (W.sub _ h)
  have more : ∀ b ∈ wr, b ∈ S :: wr := fun b => List.mem_cons_of_mem _
  have hpl : (parts x).length = n := by rw [List.length_map, Array.length_toList, hn]
  intro m
  induction m with
  | zero =>
    intro i s hm hi hst ⟨D, l, hS, F, hl, hmem⟩ hR
    obtain rfl : i = n := by omega
    refine codeAny_builtin PyProof.Rows.F.entry_set_update_loop ?_
    rw [Around.under_plainId PyProof.Rows.F.plain_set_update_loop _]
    refine wpAny_bind (W.done s _ _ hst fun s' mv => wpAny_pure (hR s' D l (mv.mono more) (mv.heap S _ hSw hS) F fun k => ?_))
    rw [hmem k, List.take_of_length_le (Nat.le_of_eq hpl)]
  | succ m ih =>
    intro i s hm hi hst ⟨D, l, hS, F, hl, hmem⟩ hR
    refine codeAny_builtin PyProof.Rows.F.entry_set_update_loop ?_
    rw [Around.under_plainId PyProof.Rows.F.plain_set_update_loop _]
    refine wpAny_bind (W.item i s _ _ (by omega) hst fun v s1 hP hst1 mv => ?_)
    obtain ⟨c, u, hc, rfl⟩ := hP
    have hS1 := mv.heap S _ hSw hS
    have hp : (parts x)[i]? = some (sing c) := by rw [List.getElem?_map, Array.getElem?_toList, hc]; rfl
    have hnx : ∀ k, k ∈ (parts x).take (i + 1) ↔ k ∈ l ∨ k = sing c := fun k => by
      rw [List.take_add_one, hp, List.mem_append, ← hmem k]
      simp
    refine wpAny_bind (wpAny_holding ?_)
    unfold setAdd
    refine wpAny_holding (wpAny_bind ((strKind P w).pyHash (k := sing c) (Froz.is_str _ _) ?_))
    by_cases hk : sing c ∈ l
    · refine add_old (s := { s1 with toks := s1.toks + 1 }) hS1 F.ok hk (by omega) ?_
      refine wpAny_pure ⟨plainId_quiet PyProof.Rows.F.plain_set_update_loop _, ih (i + 1) _ (by omega) (by omega) (W.frame _ s1 _ _ hst1 (Nat.le_succ _) fun b _ o e => e) ⟨D, l, hS1, F, by omega, fun k => ?_⟩ fun s2 D2 l2 mv2 hS2 F2 h2 => ?_⟩
      · rw [hnx k]
        exact ⟨.inl, fun z => z.elim id fun z => z ▸ hk⟩
      · exact hR s2 D2 l2 (Moved.trans W.gtrans ((mv.mono more).then_heap (Nat.le_succ _) fun b o _ e => e) mv2) hS2 F2 h2
    · refine Froz.add_x (s := { s1 with toks := s1.toks + 1 }) hS1 F.ok hk (by omega) ?_
      have hS2 : (s1.heap.update S (fun _ => sObj "set" (addTx (hashStr w (sing c)) (.str (sing c) u) D))).get? S = some (sObj "set" (addTx (hashStr w (sing c)) (.str (sing c) u) D)) := Froz.get_upd _ hS1 rfl
      have other : ∀ b o, b ≠ S → s1.heap.get? b = some o → (s1.heap.update S (fun _ => sObj "set" (addTx (hashStr w (sing c)) (.str (sing c) u) D))).get? b = some o := fun b o n e => (Heap.get?_update_other _ _ (Ne.symm n)).trans e
      refine wpAny_pure ⟨plainId_quiet PyProof.Rows.F.plain_set_update_loop _, ih (i + 1) _ (by omega) (by omega) (W.frame _ s1 _ _ hst1 (Nat.le_succ _) fun b hb' o e => other b o (fun z => hSf (z ▸ hb')) e) ⟨_, sing c :: l, hS2, F.add u hk, (by simp only [List.length_cons]; omega), fun k => ?_⟩ fun s2 D2 l2 mv2 hS3 F2 h2 => ?_⟩
      · rw [hnx k, List.mem_cons]
        exact Or.comm
      · exact hR s2 D2 l2 (Moved.trans W.gtrans ((mv.mono more).then_heap (Nat.le_succ _) fun b o nb e => other b o (fun z => nb (z ▸ List.mem_cons_self ..)) e) mv2) hS3 F2 h2
end
end Vs

set_option Elab.async false
set_option linter.all false
set_option maxRecDepth 100000
set_option maxHeartbeats 4000000
namespace Vs
open PySem PySem.Spec PyProof.Rows L2
open PySem.Froz (SD sObj addTx tailTx sing TxOk)
section
variable {P : Program} {w : World} {A : Around} {E : Value → Shared → Prop} {s : Shared}
/-- the empty payload of a new set -/
abbrev emptyD (w : World) : SD := (#[], 0, .fresh 0 0 (!w.params.followText "set-order"))
theorem tx_empty : Tx P w (emptyD w) [] := by
  refine ⟨TxOk.nil (by rfl), List.Pairwise.nil, ?_, List.nodup_nil⟩
  show _ ∨ (!w.params.followText "set-order") = true
  cases w.params.followText "set-order" <;> simp
/-- where set(v) goes once the new set stands: its __init__ -/
theorem set_by_init {v : Value} {Q : Value → Shared → Prop}
    (h : ∀ R : Result → Shared → Prop, (∀ s₂, Q (.ref s.heap.objs.size) s₂ → R (.ok (.ret .none)) s₂) → wpAny (model P w) A.in1.in1 (Builtin.«set.__init__» ⟨[.ref s.heap.objs.size, v], []⟩)
      (fun fin s' => match fin with | .done f => R (.ok f) s' | .again c' => c'.quiet = true ∧ codeAny (model P w) A.in1 c' R s') (fun e s' => R (.error e) s') { s with heap := s.heap.push (sObj "set" (emptyD w)) }) :
    wpAny (model P w) A (call (.type "set") [v]) Q E s := by
  obtain ⟨c, tl, hmro⟩ := F.called_set.mro
  have g1 := F.called_set.made
  have g2 := F.called_set.sub
  have g3 := F.called_set.notType
  have g4 := F.called_set.canCreate
  have g5 := F.typeCall_set_1 v
  refine wpAny_call (codeAny_of_tree ?_)
  refine wpAny_pure ⟨Code.quiet_builtin _ (by decide +kernel), codeAny_builtin F.entry_type_call ?_⟩
  rw [Around.under_plain (weight_type_call_type "set" [v] []) rfl]
  repeat (any_goals (first | assumption | wp_step))
  refine codeAny_mono (code_set_led1 v (E := E) (Q₁ := fun obj s₁ => obj = .ref s.heap.objs.size ∧ s₁ = { s with heap := s.heap.push (sObj "set" (emptyD w)) }) ⟨rfl, rfl⟩) fun r s₁ hr => ?_
  match r, hr with
  | .ok (.ret obj), hr =>
    obtain ⟨rfl, rfl⟩ := hr
    have hS : (s.heap.push (sObj "set" (emptyD w))).get? s.heap.objs.size = some (sObj "set" (emptyD w)) := Heap.get?_push_size _ rfl
    have hT : Shared.TypeIs { s with heap := s.heap.push (sObj "set" (emptyD w)) } (.ref s.heap.objs.size) "set" := ⟨_, hS, rfl⟩
    have g6 := F.called_set.init.lookup
    have g7 := F.called_set.init.bind (.ref s.heap.objs.size)
    repeat (any_goals (first | assumption | wp_step))
    refine codeAny_mono (codeAny_call_builtin (R := wants (fun r s₂ => r = .none ∧ Q (.ref s.heap.objs.size) s₂) E) F.called_set.init.plain F.entry_set_init (check_set_init_1 hT (h _ fun s₂ q => ⟨rfl, q⟩))) fun r₂ s₂ hr₂ => ?_
    match r₂, hr₂ with
    | .ok (.ret _), hr₂ =>
      obtain ⟨rfl, q⟩ := hr₂
      repeat (any_goals (first | assumption | wp_step))
    | .error e, hr₂ => exact hr₂
    | .ok .next, hr₂ => exact hr₂.elim
    | .ok .brk, hr₂ => exact hr₂.elim
    | .ok .cont, hr₂ => exact hr₂.elim
  | .error e, hr => exact hr
  | .ok .next, hr => exact hr.elim
  | .ok .brk, hr => exact hr.elim
  | .ok .cont, hr => exact hr.elim
end
end Vs

set_option Elab.async false
set_option linter.all false
set_option maxRecDepth 100000
set_option maxHeartbeats 4000000
namespace Vs
open PySem PySem.Spec PyProof.Rows L2
open PySem.Froz (SD sObj addTx tailTx sing TxOk)
section
variable {P : Program} {w : World} {A : Around} {E : Value → Shared → Prop} {s : Shared}
theorem sub_str_set : isSubtype (.type "str") (.type "set") = pure false := by rw [isSubtype_type]; kernel_rfl
theorem sub_str_frozenset : isSubtype (.type "str") (.type "frozenset") = pure false := by rw [isSubtype_type]; kernel_rfl
/-- set(text) -/
theorem call_set_text {x : Str} {u : Tok} {Q : Value → Shared → Prop} (hh : A.handled = none) (hb : x.cps.size + 1 < scanBound)
    (h : ∀ (s' : Shared) D l, (∀ b o, s.heap.get? b = some o → s'.heap.get? b = some o) → s'.gens = s.gens → s'.os = s.os → s'.heap.get? s.heap.objs.size = some (sObj "set" D) → Tx P w D l → (∀ k, k ∈ l ↔ k ∈ parts x) → Q (.ref s.heap.objs.size) s') :
    wpAny (model P w) A (call (.type "set") [.str x u]) Q E s := by
  refine set_by_init fun R hR => ?_
  have hS : (s.heap.push (sObj "set" (emptyD w))).get? s.heap.objs.size = some (sObj "set" (emptyD w)) := Heap.get?_push_size _ rfl
  have hz : (s.heap.push (sObj "set" (emptyD w))).objs.size = s.heap.objs.size + 1 := Heap.size_push ..
  have hold : ∀ b o, s.heap.get? b = some o → (s.heap.push (sObj "set" (emptyD w))).get? b = some o := fun b o e => Heap.get?_push_of_some _ e
  have t1 := sub_str_set
  have t2 := sub_str_frozenset
  have t3 : (Value.type "str" == Value.type "dict") = false := by decide
  generalize s.heap.push (sObj "set" (emptyD w)) = h1 at hS hz hold ⊢
  unfold Builtin.«set.__init__» noKeywords Builtin.Frozenset.updateFrom
  generalize hPI : pyIter = PI
  wp_walk
  subst hPI
  refine wpAny_pyIter_str fun o St W hst => wpAny_bind (wpAny_runValue ?_)
  have hx : ∀ b u', h1.get? b = some u' → b ≠ h1.objs.size := fun b u' e => Nat.ne_of_lt (Heap.lt_size e)
  have hSf : s.heap.objs.size ∉ [h1.objs.size] := fun z => hx _ _ hS (List.mem_singleton.mp z)
  refine loop_tx (W _ (by simp [hh])).toS s.heap.objs.size hSf rfl hb _ 0 _ rfl (Nat.zero_le _) hst ⟨_, [], Heap.get?_push_of_some _ hS, tx_empty, Nat.le_refl _, fun k => by simp⟩ fun s2 D l mv hS2 F hm => ?_
  refine wpAny_pure (wpAny_pure (hR _ (h s2 D l (fun b o' e => ?_) mv.gens mv.os hS2 F hm)))
  refine mv.heap b o' (fun z => ?_) (Heap.get?_push_of_some _ (hold b o' e))
  rcases List.mem_cons.mp z with z | z
  · rw [z] at e
    exact Nat.lt_irrefl _ (Heap.lt_size e)
  · exact hx _ _ (hold b o' e) (List.mem_singleton.mp z)
/-! ### sorted(set of texts) -/
theorem strs_of : ∀ (l : List Value), (∀ v ∈ l, ∃ k tk, v = Value.str k tk) → StrsAre l (l.map strOf)
  | [], _ => .nil
  | v :: l, h => by
    obtain ⟨k, tk, rfl⟩ := h v (List.mem_cons_self ..)
    exact .cons k tk (strs_of l fun u hu => h u (List.mem_cons_of_mem _ hu))
theorem perm_same {α : Type} [DecidableEq α] : ∀ (l m : List α), l.Nodup → (∀ k ∈ l, k ∈ m) → m.length ≤ l.length → m.Perm l
  | [], m, _, _, h => by rw [List.length_eq_zero_iff.mp (Nat.le_zero.mp h)]
  | x :: l, m, d, s, h => by
    obtain ⟨d1, d2⟩ := List.nodup_cons.mp d
    have hx := s x (List.mem_cons_self ..)
    have p := List.perm_cons_erase hx
    have hl := p.length_eq
    simp only [List.length_cons] at hl h
    exact p.trans ((perm_same l (m.erase x) d2 (fun k hk => (List.mem_erase_of_ne fun z : k = x => d1 (by rw [← z]; exact hk)).mpr (s k (List.mem_cons_of_mem _ hk))) (by omega)).cons x)
theorem Tx.vals {D : SD} {l : List Str} (F : Tx P w D l) : (∀ e ∈ D.1.toList, ∃ k tk, e.2 = Value.str k tk ∧ k ∈ l) ∧ (D.1.toList.map fun e => strOf e.2).Perm l := by
  have h1 : ∀ e ∈ D.1.toList, ∃ k tk, e.2 = Value.str k tk ∧ k ∈ l := fun e he => by
    obtain ⟨⟨k, hk, _⟩, _⟩ := F.ok.el e he
    have hi : Value.isStrOf k e.2 = true := hk
    obtain ⟨hv, v⟩ := e
    cases v <;> simp [Value.isStrOf] at hi
    exact ⟨_, _, rfl, (F.ok.mem _).2 ⟨_, he, by subst hi; exact Froz.is_str _ _⟩⟩
  refine ⟨h1, ?_⟩
  have sub : ∀ k ∈ l, k ∈ D.1.toList.map fun e => strOf e.2 := fun k hk => by
    obtain ⟨e, he, hi⟩ := (F.ok.mem k).1 hk
    refine List.mem_map.mpr ⟨e, he, ?_⟩
    have hi : Value.isStrOf k e.2 = true := hi
    obtain ⟨hv, v⟩ := e
    cases v <;> simp [Value.isStrOf] at hi
    exact hi
  have len : (D.1.toList.map fun e => strOf e.2).length = l.length := by
    rw [List.length_map, Array.length_toList]
    exact F.ok.sz
  exact perm_same _ _ F.nd sub (Nat.le_of_eq len)
theorem sorted_set_text {a : Addr} {D : SD} {l : List Str} {Q : Value → Shared → Prop} (ho : s.heap.get? a = some (sObj "set" D)) (F : Tx P w D l) (hh : A.handled = none) (h64 : l.length < 64)
    (h : ∀ (s' : Shared) p (out : List Value) (c : Nat) (ys : List Str), (∀ b o, s.heap.get? b = some o → s'.heap.get? b = some o) → s'.gens = s.gens → s'.os = s.os → s.heap.objs.size ≤ p →
      s'.heap.get? p = some (seqObj "list" out.toArray c) → StrsAre out ys → ys.Perm l → sortedS ys = true → Q (.ref p) s') :
    wpAny (model P w) A (call (.builtin "sorted") [.ref a]) Q E s := by
  obtain ⟨v1, v2⟩ := F.vals
  have hsz : D.1.size = l.length := F.ok.sz
  refine Calls.call_function_entry kind_sorted plain_sorted entry_sorted (args_sorted1 _) ?_
  unfold Builtin.«sorted»
  refine wpAny_bind (m := checkCount "sorted" 1 1 _) (wpAny_pure ?_)
  refine wpAny_bind (collect_set (A := A.in1) (es := D.1) (ep := D.2.1) (t := D.2.2) hh ⟨_, ho, rfl, rfl⟩ F.ok.fit (by rw [hsz]; exact Nat.lt_trans h64 (by decide)) F.ris F.led fun s1 vs k1 z1 g1 o1 pm => ?_)
  have len : vs.length = l.length := by rw [pm.length_eq, List.length_map, Array.length_toList, hsz]
  have hS : StrsAre vs (vs.map strOf) := strs_of vs fun v hv => by
    obtain ⟨e, he, rfl⟩ := List.mem_map.mp (pm.mem_iff.mp hv)
    obtain ⟨k, tk, q, _⟩ := v1 e he
    exact ⟨k, tk, q⟩
  have pl : (vs.map strOf).Perm l := (pm.map strOf).trans (by rw [List.map_map]; exact v2)
  refine wpAny_bind (wpAny_newList ?_ (by rw [len, sizeLine_eq]; omega))
  have hL : (s1.heap.push (seqObj "list" vs.toArray 0)).get? s1.heap.objs.size = some (seqObj "list" vs.toArray 0) := Heap.get?_push_size _ rfl
  refine wpAny_bind (wpAny_holding (wpAny_call_entry slot_list_sort ⟨_, hL, rfl⟩ entry_list_sort
    (list_sort_treeK strKind_oneLt hL hS.keysOf (fun v₁ v₂ rest e => keyKind_strs (by rw [← e]; exact hS)) (by rw [len]; exact h64) fun st' hp hs => ⟨_, rfl, ?_⟩) (args_list_sort _)))
  obtain ⟨ys, y1, y2, y3⟩ := sorted_out_str hS hp hs
  obtain ⟨c, hc⟩ := sortedHeap_at (vs := vs) (out := (arrOf st').map (·.2)) hL
  refine wpAny_pure ⟨_, rfl, h _ s1.heap.objs.size _ c ys (fun b u e => ?_) g1 o1 z1 (by rw [Array.toArray_toList]; exact hc) y1 (y2.trans pl) y3⟩
  have q := k1 b u e
  have hb := Heap.lt_size q
  show (sortedHeap (s1.heap.push (seqObj "list" vs.toArray 0)) s1.heap.objs.size vs _).get? b = some u
  rw [sortedHeap_old (Nat.ne_of_lt hb) (by rw [size_push']; exact Nat.lt_succ_of_lt hb)]
  exact Heap.get?_push_of_some _ q
end
/-! ### the rules -/
def SetTx (P : Program) (w : World) (h : Heap) (a : Addr) (l : List Str) : Prop := ∃ D, h.get? a = some (sObj "set" D) ∧ Tx P w D l
def SetTxO (P : Program) (w : World) (a : Addr) (l : List Str) : HO := .ext fun h => SetTx P w h a l
section
variable {X : Cx}
theorem setTxO_new {P : Program} {w : World} {H : Hp} {h : Heap} {a : Addr} {l : List Str} (R : SetTx P w h a l) : ObjOk P w H h a (SetTxO P w a l) := by
  have ⟨D, ho, F⟩ := R
  exact ⟨R, ⟨_, ho⟩, fun h1 h2 z p => let ⟨D, e, F⟩ := z; ⟨D, p _ e, F⟩⟩
/-- a call of a built-in that lays one new object and moves nothing else -/
theorem laid_new {pins : List (Addr × Obj)} {σ : L2.St} {H : Hp} {s s' : Shared} {p : Addr} {o : HO} {Q : VK} (I : Inv X pins σ H s) (k : ∀ b u, s.heap.get? b = some u → s'.heap.get? b = some u) (g : s'.gens = s.gens) (ho : s'.os = s.os)
    (hp : s.heap.objs.size ≤ p) (new : ObjOk X.prog X.w (upd H p o) s'.heap p o) (q : H p = none → Q (.ref p) (upd H p o)) : EP X pins σ Q (.ref p) s' := by
  have hn : H p = none := I.hok.fresh hp
  exact ⟨.ref p, _, I.call' ho (ch := []) (Un.laid k hp hn) (I.hok.laid k hp new) (by rw [g]; exact I.bare) (fun _ z => nomatch z), rfl, q hn⟩
/-- set(text) -/
theorem cr_setText (hc : X.calm = true) : CallR X (.type "set") (fun xs H Q => ∃ x, xs = [.str x] ∧ x.length < 4000 ∧ ∀ a l, H a = none → l.Nodup → (∀ k, k ∈ l ↔ k ∈ parts x) → Q (.ref a) (upd H a (SetTxO X.prog X.w a l))) := by
  intro pins s σ H vs us Q I r h
  obtain ⟨x, rfl, hx, q⟩ := h
  obtain ⟨u, rfl, rx⟩ := vals1 r
  obtain ⟨tk, rfl⟩ := rx
  have hx : x.cps.size < 4000 := hx
  refine call_set_text (I.ok.hd hc) (Nat.lt_trans (Nat.succ_lt_succ hx) (by decide)) fun s' D l k g o hS F hm => ?_
  exact laid_new I k g o (Nat.le_refl _) (setTxO_new ⟨D, hS, F⟩) fun hn => q _ l hn F.nd hm
/-- sorted(set of texts) -/
theorem cr_sortedText (hc : X.calm = true) : CallR X (.builtin "sorted") (fun xs H Q => ∃ a l, xs = [.ref a] ∧ H a = some (SetTxO X.prog X.w a l) ∧ l.length < 64 ∧ ∀ ys p, ys.Perm l → sortedS ys = true → H p = none → Q (.ref p) (upd H p (.lst (ys.map .str)))) := by
  intro pins s σ H vs us Q I r h
  obtain ⟨a, l, rfl, ha, h64, q⟩ := h
  rw [Vals.ref1 r]
  obtain ⟨D, hS, F⟩ : SetTx X.prog X.w s.heap a l := (I.hok a _ ha).1
  refine sorted_set_text hS F (I.ok.hd hc) h64 fun s' p out c ys k g o hp hg hv pm so => ?_
  have len : (ys.map V.str).length ≤ sizeLine := by rw [List.length_map, pm.length_eq, sizeLine_eq]; omega
  have new : ObjOk X.prog X.w (upd H p (.lst (ys.map V.str))) s'.heap p (.lst (ys.map .str)) := ⟨len, out, c, vals_of_strs hv, hg⟩
  exact laid_new I k g o hp new fun hn => q ys p pm so hn
/-- list(text) -/
theorem cr_listText (hc : X.calm = true) : CallR X (.type "list") (fun xs H Q => ∃ x, xs = [.str x] ∧ x.length ≤ sizeLine ∧ ∀ p, H p = none → Q (.ref p) (upd H p (.lst ((parts x).map .str)))) := by
  intro pins s σ H vs us Q I r h
  obtain ⟨x, rfl, hx, q⟩ := h
  obtain ⟨u, rfl, rx⟩ := vals1 r
  obtain ⟨tk, rfl⟩ := rx
  have hx : x.cps.size ≤ sizeLine := hx
  refine call_list_str (I.ok.hd hc) x tk (hn := hx) fun h' t' acc c k hS it => ?_
  have hv : StrsAre acc.toList (parts x) := by
    have st := strs_of acc.toList fun v hv => by
      obtain ⟨i, hi, e⟩ := List.getElem_of_mem hv
      obtain ⟨c, u, _, q⟩ := it.2 i v (by rw [← Array.getElem?_toList, List.getElem?_eq_getElem hi, e])
      exact ⟨_, u, q⟩
    have e : acc.toList.map strOf = parts x := by
      apply List.ext_getElem?
      intro i
      rw [List.getElem?_map, List.getElem?_map, Array.getElem?_toList, Array.getElem?_toList]
      cases ha : acc[i]? with
      | none =>
        have z : x.cps[i]? = none := by
          have z1 := Array.getElem?_eq_none_iff.mp ha
          rw [it.1] at z1
          exact Array.getElem?_eq_none_iff.mpr z1
        rw [z]; rfl
      | some v =>
        obtain ⟨c, u, h1, h2⟩ := it.2 i v ha
        rw [h1, h2]; rfl
    rw [e] at st
    exact st
  have len : ((parts x).map V.str).length ≤ sizeLine := by
    rw [List.length_map, List.length_map, Array.length_toList]
    exact hx
  have new : ObjOk X.prog X.w (upd H s.heap.objs.size (.lst ((parts x).map V.str))) h' s.heap.objs.size (.lst ((parts x).map .str)) := ⟨len, acc.toList, c, vals_of_strs hv, by rw [Array.toArray_toList]; exact hS⟩
  exact laid_new (s' := { s with heap := h', toks := t' }) I k rfl rfl (Nat.le_refl _) new (q _)
end
end Vs

set_option Elab.async false
set_option linter.all false
set_option maxRecDepth 100000
set_option maxHeartbeats 4000000
namespace L2
namespace Vx
open PySem PySem.Spec PyProof.Rows
/-! ### a def that is called where no repr is under way (so that repr may be called in it) -/
structure FnG (P : Program) (w : World) (K : PySem.W.Frag) (mg : Str → Option Value) (base : Heap) (k : Nat) (f : Addr) (fd : FuncData) (ps : List Str) (sp : Sp) : Prop where
  run : ∀ (A : Around) (outer : List Env) (s : Shared) (H : Hp) (args : Args) (us : List Value) (vs : List V) (Q : VK) (E : XK), Room k A → A.guards = some [] → Env0 P w K mg base A outer s H → BindsTo s fd args (ps.zip us) → Vals vs us → sp vs H Q E →
    codeAny (model P w) A (.call (.ref f) args) (CR CX0 outer P w H s Q E) s
section
variable {P : Program} {w : World} {K : PySem.W.Frag} {mg : Str → Option Value} {base : Heap}
theorem FunG {x qual : Str} {st : Stmt} {f : Addr} {fd : FuncData} {N ps : List Str} {k : Nat} {sp : Sp} (F : Fun K x qual st f fd) (S : FnScope N ps (defScope st)) (len : ∀ vs H Q E, sp vs H Q E → vs.length = ps.length)
    (hbody : ∀ (cdv : Value) (A : Around) (outer : List Env) (s : Shared) (H : Hp) (vs : List V) (Q : VK) (E : XK), Room k (A.deeper (envOfC qual (defScope st) s.heap.objs.size f cdv)) → A.guards = some [] → sp vs H Q E →
      ∃ t, PSs (cxOf CX0 P w K mg base N qual (defScope st) f cdv A outer s H E).nox (defBody st) t ∧ t { nx := fun _ H' => Q .non H', rt := Q } (start N vs) H) : FnG P w K mg base (k + 1) f fd ps sp := by
  obtain ⟨oc, od, kV, doc, pm, an, cdv, ct, osl, rfl, lk, hcd⟩ := F.ex
  refine ⟨fun A outer s H args us vs Q E hr hgd e0 hb r hsp => ?_⟩
  obtain ⟨t, ht0, hq⟩ := hbody cdv A outer s H vs Q E (hr.deeper _) hgd hsp
  have ht := ht0.nox
  have hl := len _ _ _ _ hsp
  have KX : K.In s.heap := e0.mod.kin.keeps fun b o e => (e0.bs b o e).1
  have lim : s.heap.NoLimit := e0.mod.nolimit.keeps fun b o e => (e0.bs b o e).1
  have hkind : ∀ y ∈ ps.zip us, (defScope st).names.lookup y.1 = some .local ∨ ((defScope st).names.lookup y.1 = some .cell ∧ ((cellsFrom (s.heap.objs.size + 1) (defScope st).names []).lookup y.1).isSome = true) := by
    rintro ⟨n, v⟩ hy
    rcases S.par n (List.of_mem_zip hy).1 with q | q
    · exact .inl q
    · exact .inr ⟨q, PySem.W.cellsFrom_some _ _ _ (.inl q)⟩
  refine codeAny_call_function hr.depth (KX _ _ lk) rfl S.co S.gen rfl (PySem.W.codeRec_of KX hcd) (hb _ _ _ _ ?_)
  refine wpAny_newFunctionEnv_cells S.kind hkind fun env he s1 x => ?_
  subst he
  refine ⟨lim.keeps x.toInCall.keep, codeAny_func ?_⟩
  have I := inv_start (CX := CX0) (E := E) S hr.hd e0 hl r x
  refine wpAny_mono (ht.run [] s1 (start N vs) H _ I hq) (fun fl s' hs => ?_) fun e s' hs => hs
  cases fl with
  | ret u =>
    obtain ⟨v, σ', H', J, rv, q⟩ := hs
    exact ⟨v, H', J.os, J.bare, J.base, J.hok, rv, q⟩
  | next =>
    obtain ⟨σ', H', J, q⟩ := hs
    exact ⟨V.non, H', J.os, J.bare, J.base, J.hok, rfl, q⟩
  | brk => obtain ⟨_, _, _, q⟩ := hs; exact q.elim
  | cont => obtain ⟨_, _, _, q⟩ := hs; exact q.elim
theorem law_callG {mb : Str → Option Value} {k : Nat} {fa a : Addr} {fd : FuncData} {x : Str} {sp : Sp} {s₁ : Shared} {vs : List Value} {ns : List Int}
    (KX : K.In s₁.heap) (hns : s₁.heap.Ns mainGlobals mg) (hb : s₁.heap.Ns builtinsNs mb) (hbb : ∀ x : Str, x ≠ "__name__" → mb x = bootBuiltins x) (hlim : s₁.heap.NoLimit) (hg : s₁.gens = #[])
    (ha : s₁.heap.get? a = some { cls := .type "list", data := .seq vs.toArray }) (hi : IntsAre vs ns) (hl : ns.length ≤ sizeLine) (hr : Room k callerA)
    (F : ∀ base : Heap, K.In base → base.Ns mainGlobals mg → FnG P w K mg base k fa fd [x] sp) (hbind : ∀ (s : Shared) (u : Value), BindsTo s fd ⟨[u], []⟩ [(x, u)])
    (hsp : ∀ H : Hp, Only H → SqL K H a (ns.map V.int) → sp [.ref a] H (fun v _ => v = .bl true) fun _ _ _ => False) :
    codeAny (model P w) callerA (.call (.ref fa) ⟨[.ref a], []⟩) (fun r s' => r = .ok (.ret (.bool true)) ∧ OldK s₁.heap s'.heap ∧ s'.os = s₁.os ∧ AllBare s'.gens) s₁ := by
  have rv := vals_ints hi
  have lenV := hi.length
  have core : ∀ H : Hp, Only H → SqL K H a (ns.map V.int) → HOk P w H s₁.heap → (∀ b, H b ≠ none → b = a) → (H a ≠ none → K.lookup a = none) →
      codeAny (model P w) callerA (.call (.ref fa) ⟨[.ref a], []⟩) (fun r s' => r = .ok (.ret (.bool true)) ∧ OldK s₁.heap s'.heap ∧ s'.os = s₁.os ∧ AllBare s'.gens) s₁ := by
    intro H hO hS hok hA hK
    have only : ∀ {b : Addr} {u : HO}, H b = some u → b = a := fun {b u} q => hA b (by rw [q]; exact fun z => nomatch z)
    have nsK : ∀ {b : Addr} {m : Str → Option Value}, s₁.heap.Ns b m → (hidT s₁.heap H).Ns b m := by
      rintro b m ⟨o, es, ep, e, d, r⟩
      refine ⟨o, es, ep, hidT_get e ?_, d, r⟩
      cases q : H b with
      | none => rfl
      | some u =>
        obtain rfl := only q
        rw [ha] at e
        cases e
        exact nomatch (show Data.seq vs.toArray _ = Data.dict es ep from d)
    have hKb : K.In (hidT s₁.heap H) := by
      intro b o e
      refine hidT_get (KX b o e) ?_
      cases q : H b with
      | none => rfl
      | some u =>
        obtain rfl := only q
        rw [hK (by rw [q]; exact fun z => nomatch z)] at e
        cases e
    have hM : Mod K mg (hidT s₁.heap H) := ⟨hKb, nsK hns, ⟨mb, nsK hb, hbb⟩, let ⟨mc, h1, h2⟩ := hlim; ⟨mc, nsK h1, h2⟩⟩
    have e0 : Env0 P w K mg (hidT s₁.heap H) callerA [] s₁ H :=
      ⟨rfl, hM, fun b o e => of_hidT e, Nat.le_of_eq (hidT_size _ _), trivial, fun b hb => absurd (show b ∈ ([] : List Addr) from hb) (by simp), hok, .of_eq hg⟩
    refine codeAny_mono ((F _ hKb (nsK hns)).run callerA [] s₁ H ⟨[.ref a], []⟩ [.ref a] [.ref a] _ _ hr rfl e0 (hbind s₁ (.ref a)) (.cons rfl .nil) (hsp H hO hS)) fun r s' h => ?_
    cases r with
    | error e => exact (show False from h).elim
    | ok fl =>
      cases fl with
      | next => exact False.elim h
      | brk => exact False.elim h
      | cont => exact False.elim h
      | ret u =>
        obtain ⟨v, H', os, bare, un, hok', r', q⟩ := h
        obtain rfl : v = .bl true := q
        obtain rfl : u = Value.bool true := r'
        refine ⟨rfl, OldK.of_keep fun b o e => ?_, os, bare⟩
        cases q : H b with
        | none => exact un.keep b o e q (fun z => absurd (show b ∈ ([] : List Addr) from z) (by simp)) (by simp)
        | some u =>
          rcases hO b with z | ⟨ob, xs, z⟩
          · rw [q] at z; cases z
          · obtain ⟨e1, _⟩ := hok b _ z
            obtain ⟨e2, _⟩ := hok' b _ (un.frzs b ob _ z)
            rw [e] at e1
            cases e1
            exact e2
  cases hk : K.lookup a with
  | some o =>
    have e := KX a o hk
    rw [ha] at e
    cases e
    exact core (fun _ => none) (fun _ => .inl rfl) (.inr ⟨_, vs.toArray, _, hk, rfl, rfl, rfl, by rw [List.size_toArray, lenV]; exact hl, by simpa using rv⟩) (fun b u z => nomatch (show (none : Option HO) = some u from z)) (fun b z => absurd rfl z) fun z => absurd rfl z
  | none =>
    have at_a : (fun b => if b = a then some (HO.frz { cls := .type "list", data := .seq vs.toArray } (.lst (ns.map V.int))) else none) a = some (.frz { cls := .type "list", data := .seq vs.toArray } (.lst (ns.map V.int))) := if_pos rfl
    refine core (fun b => if b = a then some (.frz { cls := .type "list", data := .seq vs.toArray } (.lst (ns.map V.int))) else none) (fun b => ?_) (.inl (.inr ⟨_, at_a⟩)) (fun b u z => ?_) (fun b z => ?_) fun _ => hk
    · by_cases hb : b = a
      · exact .inr ⟨_, _, if_pos hb⟩
      · exact .inl (if_neg hb)
    · by_cases hb : b = a
      · cases (if_pos hb).symm.trans z
        subst hb
        exact ⟨ha, by rw [List.length_map]; exact hl, vs, _, rv, ha⟩
      · cases (if_neg hb).symm.trans z
    · by_cases hb : b = a
      · exact hb
      · exact absurd (if_neg hb) z
end
theorem walk_ofG {l : PySem.W.OpenLaw} {n k : Nat} {q : Program} {loose : List Str} {XP : (Str → Option Value) → Heap → Prop} {YP : World → Heap → Prop} {d : DefRec} {K : Params → PySem.W.Frag} {sp : World → Sp} {x : Str}
    (hn : l.most = some n) (hn2 : n ≤ sizeLine) (hdf : d.params.defaults = []) (hr : Room k callerA) (hY : ∀ (w : World) (h : Heap), YP w h → (K w.params).In h)
    (F : ∀ (w : World) (mg : Str → Option Value) (fa : Addr) (h : Heap), (K w.params).In h → h.Ns mainGlobals mg → mg d.name = some (.ref fa) →
      ∃ fd : FuncData, (∀ (s : Shared) (u : Value), BindsTo s fd ⟨[u], []⟩ [(x, u)]) ∧ ∀ base : Heap, (K w.params).In base → base.Ns mainGlobals mg → FnG l.prog w (K w.params) mg base k fa fd [x] (sp w))
    (hsp : ∀ (w : World) (H : Hp) (a : Addr) (ns : List Int), ns.length ≤ n → Only H → SqL (K w.params) H a (ns.map V.int) → sp w [.ref a] H (fun v _ => v = .bl true) fun _ _ _ => False) :
    PySem.W.WalkO q loose XP YP l.row.toRowW d [] (fun f vs => PySem.call f vs) := by
  refine Att.attach_call hn hdf fun w s₀ s₁ mg mb fa o pm cd doc a vs ns G Y ho hd hcd hmg hobj hints hlen hg => ?_
  have KX := hY w _ Y
  obtain ⟨fd, hb, hF⟩ := F w mg fa _ KX G.T.g hmg
  exact law_callG KX G.T.g G.T.b G.T.builtins G.T.nolimit hg hobj hints (Nat.le_trans hlen hn2) hr hF hb (fun H hO hS => hsp w H a ns hlen hO hS)
end Vx
end L2

set_option Elab.async false
set_option linter.all false
set_option maxRecDepth 100000
set_option maxHeartbeats 4000000
/-! ### values that can be shown: repr of any of them, whatever stands in sys.modules' place -/
namespace PySem
namespace Vr
section
mutual
inductive RdX (h : Heap) : Value → PyData → Prop
  | leaf {v d} (r : Reads h v d []) : RdX h v d
  | list {a o vs n xs} : h.get? a = some o → o.cls = .type "list" → o.data = .seq vs n → RdXAll h vs.toList xs → RdX h (.ref a) (.list xs)
  | tuple {a o vs n xs} : h.get? a = some o → o.cls = .type "tuple" → o.data = .seq vs n → RdXAll h vs.toList xs → RdX h (.ref a) (.tuple xs)
  | dict {a o es n kvs} : h.get? a = some o → o.cls = .type "dict" → o.data = .dict es n → ReadsAll h (es.toList.map (·.key)) (kvs.map (·.1)) [] → ReadsAll h (es.toList.map (·.val)) (kvs.map (·.2)) [] → (a == sysModules) = false → RdX h (.ref a) (.dict kvs)
inductive RdXAll (h : Heap) : List Value → List PyData → Prop
  | nil : RdXAll h [] []
  | cons {v vs d ds} : RdX h v d → RdXAll h vs ds → RdXAll h (v :: vs) (d :: ds)
end
mutual
theorem RdX.reads {h : Heap} : ∀ {v : Value} {d : PyData}, RdX h v d → ∃ as, Reads h v d as
  | _, _, .leaf r => ⟨[], r⟩
  | _, _, .list h1 h2 h3 h4 => let ⟨as, r⟩ := RdXAll.reads h4; ⟨_, .list h1 h2 h3 r⟩
  | _, _, .tuple h1 h2 h3 h4 => let ⟨as, r⟩ := RdXAll.reads h4; ⟨_, .tuple h1 h2 h3 r⟩
  | _, _, .dict h1 h2 h3 h4 h5 _ => ⟨_, .dict h1 h2 h3 h4 h5⟩
theorem RdXAll.reads {h : Heap} : ∀ {vs : List Value} {ds : List PyData}, RdXAll h vs ds → ∃ as, ReadsAll h vs ds as
  | _, _, .nil => ⟨[], .nil⟩
  | _, _, .cons r rs => let ⟨as, q⟩ := RdX.reads r; let ⟨bs, qs⟩ := RdXAll.reads rs; ⟨_, .cons q qs⟩
end
variable {prog : Program} {w : World} {h₀ : Heap}
theorem dict_parts {a : Addr} {o : Obj} {es : Array DictEntry} {n : Nat} {kvs : List (PyData × PyData)} (h1 : h₀.get? a = some o) (h2 : o.cls = .type "dict") (h3 : o.data = .dict es n) (h4 : ReadsAll h₀ (es.toList.map (·.key)) (kvs.map (·.1)) [])
    (h5 : ReadsAll h₀ (es.toList.map (·.val)) (kvs.map (·.2)) []) (hs : PyData.showableKv kvs = true) (hz : (dictText (PyData.shownKv kvs)).length ≤ sizeLine) :
    ∃ bs, a ∉ bs ∧ ReadAtMost h₀ (PyData.depthKv kvs) bs ∧ ReprEntriesK prog w bs h₀ (PyData.depthKv kvs) es.toList (PyData.shownKv kvs) := by
  obtain ⟨s1, s2⟩ := PyData.showableKv_split kvs hs
  have no : sysModules ∉ ([] : List Addr) := fun z => nomatch z
  obtain ⟨b1, g1, k1⟩ := ReprAllK.of_readsAll (prog := prog) (w := w) h4 s1 (fun _ => no) fun t ht => by
    obtain ⟨p, hp, hl⟩ := PyData.shownKv_key_le kvs t ht
    exact Nat.le_trans hl (Nat.le_trans (dictText_mem_le hp) hz)
  obtain ⟨b2, g2, k2⟩ := ReprAllK.of_readsAll (prog := prog) (w := w) h5 s2 (fun _ => no) fun t ht => by
    obtain ⟨p, hp, hl⟩ := PyData.shownKv_val_le kvs t ht
    exact Nat.le_trans hl (Nat.le_trans (dictText_mem_le hp) hz)
  have g : ReadAtMost h₀ (PyData.depthKv kvs) (b1 ++ b2) := (g1.mono (PyData.depthAll_keys_le kvs)).append (g2.mono (PyData.depthAll_vals_le kvs))
  refine ⟨b1 ++ b2, not_mem_of_deeper (.dict h1 h2 h3 h4 h5) (by simp only [PyData.depth]; omega) g, g, ?_⟩
  rw [PyData.shownKv_eq]
  exact ReprEntriesK.of_two es.toList _ _ (k1.more_le (fun b hb => List.mem_append_left _ hb) (PyData.depthAll_keys_le kvs)) (k2.more_le (fun b hb => List.mem_append_right _ hb) (PyData.depthAll_vals_le kvs))
mutual
theorem reprK_of : ∀ {v : Value} {d : PyData}, RdX h₀ v d → d.showable = true → d.shown.length ≤ sizeLine → ∃ bs, ReadAtMost h₀ d.depth bs ∧ ReprK prog w bs h₀ d.depth v d.shown
  | _, _, .leaf r, hs, hz => ReprK.of_reads r hs (fun _ z => nomatch z) hz
  | _, _, .list (a := a) (vs := vs) (xs := xs) h1 h2 h3 h4, hs, hz => by
    simp only [PyData.shown] at hz
    obtain ⟨bs, g, k⟩ := reprAllK_of h4 (by simpa [PyData.showable] using hs) fun t ht => Nat.le_trans (listText_mem_le ht) hz
    obtain ⟨as, r⟩ := RdX.reads (.list h1 h2 h3 h4)
    refine ⟨a :: bs, ReadAtMost.cons r (by simp only [PyData.depth]; omega) g, ?_⟩
    have na : a ∉ bs := not_mem_of_deeper r (by simp only [PyData.depth]; omega) g
    simp only [PyData.depth, PyData.shown]
    obtain ⟨l⟩ := vs
    cases l with
    | nil =>
      cases (show RdXAll h₀ [] xs from h4)
      simp only [PyData.shownAll, listText_nil]
      exact ReprK.listEmpty h1 h2 h3
    | cons x l => exact ReprK.list h1 h2 h3 na (by simpa using k.length_eq) fun i y e => k.item i y (by simpa using e)
  | _, _, .tuple (a := a) (xs := xs) h1 h2 h3 h4, hs, hz => by
    simp only [PyData.shown] at hz
    obtain ⟨bs, g, k⟩ := reprAllK_of h4 (by simpa [PyData.showable] using hs) fun t ht => Nat.le_trans (tupleText_mem_le ht) hz
    obtain ⟨as, r⟩ := RdX.reads (.tuple h1 h2 h3 h4)
    refine ⟨a :: bs, ReadAtMost.cons r (by simp only [PyData.depth]; omega) g, ?_⟩
    simp only [PyData.depth, PyData.shown]
    exact ReprK.tuple h1 h2 h3 (not_mem_of_deeper r (by simp only [PyData.depth]; omega) g) k
  | _, _, .dict (a := a) (kvs := kvs) h1 h2 h3 h4 h5 h6, hs, hz => by
    simp only [PyData.shown] at hz
    obtain ⟨bs, na, g, k⟩ := dict_parts (prog := prog) (w := w) h1 h2 h3 h4 h5 (by simpa [PyData.showable] using hs) hz
    refine ⟨a :: bs, ReadAtMost.cons (.dict h1 h2 h3 h4 h5) (by simp only [PyData.depth]; omega) g, ?_⟩
    simp only [PyData.depth, PyData.shown]
    exact ReprK.dict h1 h2 h3 h6 na k
theorem reprAllK_of : ∀ {vs : List Value} {ds : List PyData}, RdXAll h₀ vs ds → PyData.showableAll ds = true → (∀ t ∈ PyData.shownAll ds, t.length ≤ sizeLine) →
    ∃ bs, ReadAtMost h₀ (PyData.depthAll ds) bs ∧ ReprAllK prog w bs h₀ (PyData.depthAll ds) vs (PyData.shownAll ds)
  | _, _, .nil, _, _ => ⟨[], (fun _ h => nomatch h), by simp only [PyData.shownAll]; exact .nil⟩
  | _, _, .cons (d := d) (ds := ds) r rs, hs, hz => by
    have hs' : d.showable = true ∧ PyData.showableAll ds = true := by simpa [PyData.showableAll] using hs
    obtain ⟨b1, g1, k1⟩ := reprK_of r hs'.1 (hz _ (by simp only [PyData.shownAll]; exact List.mem_cons_self ..))
    obtain ⟨b2, g2, k2⟩ := reprAllK_of rs hs'.2 (fun t ht => hz t (by simp only [PyData.shownAll]; exact List.mem_cons_of_mem _ ht))
    refine ⟨b1 ++ b2, fun b hm => ?_, ?_⟩
    · simp only [PyData.depthAll]
      rcases List.mem_append.mp hm with hm | hm
      · obtain ⟨d', as', r', hd'⟩ := g1 b hm
        exact ⟨d', as', r', Nat.le_trans hd' (Nat.le_max_left _ _)⟩
      · obtain ⟨d', as', r', hd'⟩ := g2 b hm
        exact ⟨d', as', r', Nat.le_trans hd' (Nat.le_max_right _ _)⟩
    · simp only [PyData.depthAll, PyData.shownAll]
      exact .cons ((k1.more fun b hb => List.mem_append_left _ hb).level_le (Nat.le_max_left _ _)) (k2.more_le (fun b hb => List.mem_append_right _ hb) (Nat.le_max_right _ _))
end
/-- repr(v) -/
theorem repr_call {s : Shared} {A : Around} {E : Value → Shared → Prop} {Q : Value → Shared → Prop} {v : Value} {d : PyData} (r : RdX s.heap v d) (hs : d.showable = true) (hz : d.shown.length ≤ sizeLine) (hg : A.guards = some []) (hu : A.units + (d.depth + 1) < cLine)
    (hQ : ∀ h' u tk, (∀ b o, s.heap.get? b = some o → h'.get? b = some o) → Q (.str d.shown u) { s with heap := h', toks := tk }) : wpAny (model prog w) A (call (.builtin "repr") [v]) Q E s := by
  have hu' : A.in1.units + d.depth < cLine := by
    show A.units + 1 + d.depth < cLine
    omega
  have keep : ∀ b o, s.heap.get? b = some o → s.heap.get? b = some o := fun _ _ e => e
  cases r with
  | leaf r =>
    cases r with
    | none => simp only [PyData.shown] at hQ; exact P.repr_of_none (hQ s.heap _ _ keep)
    | bool b => simp only [PyData.shown] at hQ; exact P.repr_of_bool (hQ s.heap _ _ keep)
    | int i t => simp only [PyData.shown] at hQ; exact P.repr_of_int (by simpa [PyData.showable] using hs) (hQ s.heap _ _ keep)
    | str x t => simp only [PyData.shown] at hQ hz; exact P.repr_of_str (hQ s.heap _ _ keep) hz
    | tuple h1 h2 h3 h4 => exact repr_of_reads' (.tuple h1 h2 h3 h4) hs (fun _ z => nomatch z) hg hu keep (fun h' u tk k => hQ h' u tk k) hz
  | list h1 h2 h3 h4 =>
    rename_i a o vs n xs
    obtain ⟨as, r⟩ := RdX.reads (.list h1 h2 h3 h4)
    simp only [PyData.shown] at hQ hz
    obtain ⟨bs, g, k⟩ := reprAllK_of (prog := prog) (w := w) h4 (by simpa [PyData.showable] using hs) fun t ht => Nat.le_trans (listText_mem_le ht) hz
    have na : a ∉ bs := not_mem_of_deeper r (by simp only [PyData.depth]; omega) g
    simp only [PyData.depth] at hu'
    refine call_repr_slot (T := "list") (idr := "list.__repr__") (by omega) ⟨o, h1, h2⟩ F.slot_list_repr.toG ?_
    obtain ⟨l⟩ := vs
    cases l with
    | nil =>
      cases (show RdXAll s.heap [] xs from h4)
      simp only [PyData.shownAll, listText_nil] at hQ
      exact call_list_repr_empty ⟨o, h1, h2⟩ h1 h3 ⟨_, _, rfl, hQ s.heap _ _ keep⟩
    | cons x l => exact call_list_reprK h1 h2 h3 na (by simpa using k.length_eq) (fun i y e => k.item i y (by simpa using e)) hg (fun b _ => Clear.nil b) hu' keep (fun h' u tk kk => ⟨_, _, rfl, hQ h' u tk kk⟩) hz
  | tuple h1 h2 h3 h4 =>
    rename_i a o vs n xs
    obtain ⟨as, r⟩ := RdX.reads (.tuple h1 h2 h3 h4)
    simp only [PyData.shown] at hQ hz
    obtain ⟨bs, g, k⟩ := reprAllK_of (prog := prog) (w := w) h4 (by simpa [PyData.showable] using hs) fun t ht => Nat.le_trans (tupleText_mem_le ht) hz
    have na : a ∉ bs := not_mem_of_deeper r (by simp only [PyData.depth]; omega) g
    simp only [PyData.depth] at hu'
    exact call_repr_slot (T := "tuple") (idr := "tuple.__repr__") (by omega) ⟨o, h1, h2⟩ F.slot_tuple_repr
      (call_tuple_reprK h1 h2 h3 na k hg (fun b _ => Clear.nil b) hu' keep (fun h' u tk kk => ⟨_, _, rfl, hQ h' u tk kk⟩) hz)
  | dict h1 h2 h3 h4 h5 h6 =>
    simp only [PyData.shown] at hQ hz
    obtain ⟨bs, na, g, k⟩ := dict_parts (prog := prog) (w := w) h1 h2 h3 h4 h5 (by simpa [PyData.showable] using hs) hz
    simp only [PyData.depth] at hu'
    exact call_repr_slot (T := "dict") (idr := "dict.__repr__") (by omega) ⟨_, h1, h2⟩ F.slot_dict_repr
      (call_dict_reprK h1 h2 h3 h6 na k hg (fun b _ => Clear.nil b) hu' keep (fun h' u tk kk => ⟨_, _, rfl, hQ h' u tk kk⟩) hz)
end
end Vr
end PySem

set_option Elab.async false
set_option linter.all false
set_option maxRecDepth 100000
set_option maxHeartbeats 4000000
namespace L2
namespace Vx
open PySem PySem.Spec PyProof.Rows PySem.Vr
/-! ### values as data: trees of lists and tuples over flat things; a dict holds flat things alone; S: where they may stand -/
def FlatD : V → PyData → Prop
  | .non, d => d = .none
  | .bl b, d => d = .bool b
  | .int i, d => d = .int i
  | .str x, d => d = .str x
  | _, _ => False
def kD : Key → PyData
  | .inl i => .int i
  | .inr x => .str x
inductive FlatP : List (Key × V) → List (PyData × PyData) → Prop
  | nil : FlatP [] []
  | cons {k : Key} {v : V} {d : PyData} {r : List (Key × V)} {ds : List (PyData × PyData)} : FlatD v d → FlatP r ds → FlatP ((k, v) :: r) ((kD k, d) :: ds)
section
mutual
inductive Dt (H : Hp) (S : Addr → Prop) : V → PyData → Prop
  | flat {v d} : FlatD v d → Dt H S v d
  | lst {a xs ds} : H a = some (.lst xs) → S a → DtAll H S xs ds → Dt H S (.ref a) (.list ds)
  | tup {a xs ds} : H a = some (.tup xs) → S a → DtAll H S xs ds → Dt H S (.ref a) (.tuple ds)
  | dct {a kvs ds} : H a = some (.dK kvs) → S a → FlatP kvs ds → Dt H S (.ref a) (.dict ds)
inductive DtAll (H : Hp) (S : Addr → Prop) : List V → List PyData → Prop
  | nil : DtAll H S [] []
  | cons {v vs d ds} : Dt H S v d → DtAll H S vs ds → DtAll H S (v :: vs) (d :: ds)
end
mutual
theorem Dt.mono {H H' : Hp} {S S' : Addr → Prop} (k : ∀ a o, S a → H a = some o → H' a = some o) (ks : ∀ a o, S a → H a = some o → S' a) : ∀ {v : V} {d : PyData}, Dt H S v d → Dt H' S' v d
  | _, _, .flat h => .flat h
  | _, _, .lst h s r => .lst (k _ _ s h) (ks _ _ s h) (DtAll.mono k ks r)
  | _, _, .tup h s r => .tup (k _ _ s h) (ks _ _ s h) (DtAll.mono k ks r)
  | _, _, .dct h s r => .dct (k _ _ s h) (ks _ _ s h) r
theorem DtAll.mono {H H' : Hp} {S S' : Addr → Prop} (k : ∀ a o, S a → H a = some o → H' a = some o) (ks : ∀ a o, S a → H a = some o → S' a) : ∀ {vs : List V} {ds : List PyData}, DtAll H S vs ds → DtAll H' S' vs ds
  | _, _, .nil => .nil
  | _, _, .cons h r => .cons (Dt.mono k ks h) (DtAll.mono k ks r)
end
theorem DtAll.append {H : Hp} {S : Addr → Prop} : ∀ {vs ws : List V} {ds es : List PyData}, DtAll H S vs ds → DtAll H S ws es → DtAll H S (vs ++ ws) (ds ++ es)
  | _, _, _, _, .nil, r => r
  | _, _, _, _, .cons h t, r => .cons h (DtAll.append t r)
theorem FlatD.reads {h : Heap} {v : V} {u : Value} {d : PyData} (f : FlatD v d) (r : RelV v u) : Reads h u d [] := by
  cases v with
  | non => cases (show d = .none from f); cases (show u = Value.none from r); exact .none
  | bl b => cases (show d = .bool b from f); cases (show u = Value.bool b from r); exact .bool b
  | int i => cases (show d = .int i from f); obtain ⟨t, rfl⟩ := (show ∃ t, u = Value.int i t from r); exact .int i t
  | str x => cases (show d = .str x from f); obtain ⟨t, rfl⟩ := (show ∃ t, u = Value.str x t from r); exact .str x t
  | byt b => exact (show False from f).elim
  | flt b => exact (show False from f).elim
  | ref b => exact (show False from f).elim
  | ty b => exact (show False from f).elim
theorem readsAll_cons0 {h : Heap} {v : Value} {vs : List Value} {d : PyData} {ds : List PyData} (a : Reads h v d []) (b : ReadsAll h vs ds []) : ReadsAll h (v :: vs) (d :: ds) [] := .cons (as := []) (bs := []) a b
theorem flatP_reads {P : Program} {w : World} {h : Heap} : ∀ {kvs : List (Key × V)} {ds : List (PyData × PyData)} {vs : List (Key × Value)} {es : List DictEntry}, FlatP kvs ds → KV kvs vs → Pairs (mixKind P w) es vs →
    ReadsAll h (es.map (·.key)) (ds.map (·.1)) [] ∧ ReadsAll h (es.map (·.val)) (ds.map (·.2)) []
  | _, _, _, _, .nil, .nil, .nil => ⟨.nil, .nil⟩
  | _, _, _, _, .cons (k := k) f fr, .cons ⟨ek, rv⟩ rr, .cons (e := e0) hk hv hp => by
    obtain ⟨i1, i2⟩ := flatP_reads fr rr hp
    refine ⟨readsAll_cons0 ?_ i1, readsAll_cons0 ?_ i2⟩
    · have hk' : keyIs k e0.key = true := by rw [show k = _ from ek]; exact hk
      rcases keyIs_shape hk' with ⟨i, t, rfl, e⟩ | ⟨x, t, rfl, e⟩
      · show Reads h e0.key (.int i) []
        rw [e]
        exact .int i t
      · show Reads h e0.key (.str x) []
        rw [e]
        exact .str x t
    · exact f.reads (show RelV _ e0.val by rw [hv]; exact rv)
end
section
variable {X : Cx} {pins : List (Addr × Obj)} {σ : L2.St} {H : Hp} {s : Shared} {S : Addr → Prop}
mutual
theorem Dt.rd (I : Inv X pins σ H s) : ∀ {v : V} {d : PyData}, Dt H S v d → ∀ {u : Value}, RelV v u → RdX s.heap u d
  | _, _, .flat f, u, r => .leaf (f.reads r)
  | _, _, .lst (a := a) (xs := xs) h _ q, u, r => by
    cases (show u = Value.ref a from r)
    obtain ⟨_, its, n, rv, e⟩ := (show ObjOk X.prog X.w H s.heap a (.lst xs) from I.hok a _ h)
    exact .list e rfl rfl (DtAll.rd I q rv)
  | _, _, .tup (a := a) (xs := xs) h _ q, u, r => by
    cases (show u = Value.ref a from r)
    obtain ⟨_, its, rv, o, e, c, n, dt⟩ := (show ObjOk X.prog X.w H s.heap a (.tup xs) from I.hok a _ h)
    exact .tuple e c dt (DtAll.rd I q rv)
  | _, _, .dct (a := a) (kvs := kvs) h _ q, u, r => by
    cases (show u = Value.ref a from r)
    obtain ⟨_, hm, vs, rel, o, es, ep, e, hx, hd, _, hp, _⟩ := (show ObjOk X.prog X.w H s.heap a (.dK kvs) from I.hok a _ h)
    obtain ⟨i1, i2⟩ := flatP_reads (h := s.heap) q rel hp
    exact .dict e hx.1 hd i1 i2 hm
theorem DtAll.rd (I : Inv X pins σ H s) : ∀ {vs : List V} {ds : List PyData}, DtAll H S vs ds → ∀ {us : List Value}, Vals vs us → RdXAll s.heap us ds
  | _, _, .nil, _, .nil => .nil
  | _, _, .cons h q, _, .cons r rr => .cons (Dt.rd I h r) (DtAll.rd I q rr)
end
/-- a datum that repr can show -/
structure Shows (d : PyData) : Prop where
  sh : d.showable = true
  len : d.shown.length ≤ 1000000
  dep : d.depth ≤ 60
def rRep (S : Addr → Prop) : List V → Hp → VK → Prop := fun xs H Q => ∃ v d, xs = [v] ∧ Dt H S v d ∧ Shows d ∧ Q (.str d.shown) H
theorem call_rep (hg : X.A.guards = some []) (hu : X.A.units + 100 < cLine) (S : Addr → Prop) : CallR X (.builtin "repr") (rRep S) := by
  intro pins s σ H xs us Q I r h
  obtain ⟨v, d, rfl, hd, z, q⟩ := h
  cases r with
  | cons rv rn =>
    cases rn
    have hl : d.shown.length ≤ sizeLine := Nat.le_trans z.len (by rw [sizeLine_eq]; decide)
    have hdp := z.dep
    exact repr_call (hd.rd I rv) z.sh hl hg (by omega) fun h' u tk k => ⟨.str d.shown, H, I.kept (t' := tk) k, ⟨_, rfl⟩, q⟩
end
end Vx
end L2

set_option Elab.async false
set_option linter.all false
set_option maxRecDepth 100000
set_option maxHeartbeats 4000000
namespace Vf
open PySem PySem.Spec PyProof.Rows L2
/-! ### the text by places -/
def top (i : Nat) : Stmt := PySem.Challenge.pw_piecesseen_k06_sets_of_texts.main.body.getD i (.Pass ⟨0, 0, 0, 0⟩)
abbrev sDeck : Stmt := top 46
abbrev sDraw : Stmt := top 47
abbrev sPick : Stmt := top 48
/-! ### the deck: what holds of it between draws -/
theorem same_new {H : Hp} {p : Addr} (h : H p = none) (o : HO) : Same H (upd H p o) := fun b u q => by rw [upd_ne (ne_of_none q h)]; exact q
/-- a deck at d, its digits at g -/
def DeckAt (H : Hp) (d g : Addr) : Prop := ∃ (ns : List Int) (m n : Int), H d = some (.lst [.ref g, .int m, .int n]) ∧ H g = some (.lst (ns.map V.int)) ∧ ns.length ≤ 63 ∧ d ≠ g
/-- all that was tracked stands, but for d and g -/
def Keeps (d g : Addr) (H H' : Hp) : Prop := ∀ b o, b ≠ d → b ≠ g → H b = some o → H' b = some o
theorem Keeps.refl (d g : Addr) (H : Hp) : Keeps d g H H := fun _ _ _ _ h => h
theorem Keeps.trans {d g : Addr} {H H1 H2 : Hp} (a : Keeps d g H H1) (b : Keeps d g H1 H2) : Keeps d g H H2 := fun c o n1 n2 h => b c o n1 n2 (a c o n1 n2 h)
theorem Keeps.of {d g : Addr} {H H' : Hp} (s : Same H H') : Keeps d g H H' := fun b o _ _ h => s b o h
theorem Keeps.upd_d {d g : Addr} {H H' : Hp} (k : Keeps d g H H') (o : HO) : Keeps d g H (upd H' d o) := fun b u n1 n2 h => by rw [upd_ne n1]; exact k b u n1 n2 h
theorem Keeps.upd_g {d g : Addr} {H H' : Hp} (k : Keeps d g H H') (o : HO) : Keeps d g H (upd H' g o) := fun b u n1 n2 h => by rw [upd_ne n2]; exact k b u n1 n2 h
theorem DeckAt.same {H H' : Hp} {d g : Addr} (h : DeckAt H d g) (s : Same H H') : DeckAt H' d g := by
  obtain ⟨ns, m, n, h1, h2, h3, h4⟩ := h
  exact ⟨ns, m, n, s _ _ h1, s _ _ h2, h3, h4⟩
theorem DeckAt.dn {H : Hp} {d g p : Addr} (h : DeckAt H d g) (hp : H p = none) : p ≠ d ∧ p ≠ g := by
  obtain ⟨ns, m, n, h1, h2, _⟩ := h
  exact ⟨(ne_of_none h1 hp).symm, (ne_of_none h2 hp).symm⟩
/-! ### promises -/
def spDeck (K : PySem.W.Frag) : Sp := fun vs H Q _ => ∃ (a : Addr) (ns : List Int), vs = [.ref a] ∧ SqL K H a (ns.map V.int) ∧ ns.length ≤ 63 ∧
  ∀ (d g : Addr) (H' : Hp), Same H H' → H d = none → H g = none → DeckAt H' d g → Q (.ref d) H'
def spDraw : Sp := fun vs H Q _ => ∃ (d g : Addr) (b : Int), vs = [.ref d, .int b] ∧ 0 < b ∧ b < 1073741824 ∧ DeckAt H d g ∧
  ∀ (r : Int) (H' : Hp), 0 ≤ r → r < b → DeckAt H' d g → Keeps d g H H' → Q (.int r) H'
def spPick (K : PySem.W.Frag) : Sp := fun vs H Q _ => ∃ (d g p : Addr) (xs : List V), vs = [.ref d, .ref p] ∧ (SqL K H p xs) ∧ p ≠ d ∧ p ≠ g ∧ xs ≠ [] ∧ xs.length < 1000000 ∧ DeckAt H d g ∧
  ∀ (x : V) (H' : Hp), x ∈ xs → DeckAt H' d g → Keeps d g H H' → Q x H'
/-- what the top leaves of the names that these defs use -/
structure TxtD (mg : Str → Option Value) (fW : Addr) : Prop where
  list : mg "list" = none
  int : mg "int" = none
  len : mg "len" = none
  draw : mg "_law_draw" = some (.ref fW)
section
variable {P : Program} {w : World} {K : PySem.W.Frag} {mg : Str → Option Value} {base : Heap}
theorem scDeck : FnScope ["_law_script", "_law_digits", "_law_mixed", "_law_cell"] ["_law_script"] (defScope sDeck) := ⟨rfl, rfl, rfl, by decide +kernel, rfl, by decide +kernel, by decide +kernel⟩
theorem int_at {ns : List Int} {i : Nat} {y : V} (h : (ns.map V.int)[i]? = some y) : ∃ z : Int, ns[i]? = some z ∧ y = .int z := by
  rw [List.getElem?_map] at h
  cases e : ns[i]? with
  | none => rw [e] at h; cases h
  | some z => rw [e] at h; exact ⟨z, rfl, (Option.some.inj h).symm⟩
theorem cut63 {xs : List V} (h : xs.length ≤ 63) : cutV xs none (some 63) = xs := by
  unfold cutV
  have e1 : HT.sIx xs.length 0 none = 0 := rfl
  have e2 : HT.sIx xs.length xs.length (some 63) = min 63 xs.length := HT.sIx_nat _ _ 63
  rw [e1, e2, List.drop_zero]
  exact List.take_of_length_le (by omega)
theorem ok_deck {f : Addr} {fd : FuncData} {fW : Addr} (F : Fun K "_law_deck" "_law_deck" sDeck f fd) (T : TxtD mg fW) : FnOk P w K mg base CX0 1 f fd ["_law_script"] (spDeck K) := by
  refine F.ok scDeck (fun vs H Q E h => ?_) (fun cdv A outer s H vs Q E hr h => ?_)
  · obtain ⟨a, ns, rfl, _⟩ := h
    rfl
  obtain ⟨a, ns, rfl, hS, h63, k⟩ := h
  refine ⟨_, pss_cons (ps_par (i := 1) (j := 2) rfl scDeck.nd rfl rfl (by decide) rfl rfl (pa_cons (pe_callTy call_list_of (by rfl) T.list (by decide +kernel) (pa_cons (pe_slice sl_list (pv 0) po_none (po_some pe_int)) pa_nil)) (pa_cons pe_int pa_nil)) (by rfl))
    (pss_cons (ps_for PassesOwn.never rfl (pi_list (pv 1)) (pg_name (i := 3) scDeck.nd rfl (Or.inl rfl))
      (pss_one (ps_set (i := 2) scDeck.nd rfl (Or.inl rfl) (pe_op op_mod (pe_callTy call_int1 (by rfl) T.int (by decide +kernel) (pa_cons (pe_op op_add (pe_op op_add (pe_op op_mul (pv 2) pe_int) (pe_op op_mod (pe_callTy call_int1 (by rfl) T.int (by decide +kernel) (pa_cons (pv 3) pa_nil)) pe_int)) pe_int) pa_nil)) pe_int))))
    (pss_one (ps_ret (pe_lst (pa_cons (pe_revL (pv 1)) (pa_cons (pv 2) (pa_cons pe_int pa_nil))))))), ?_⟩
  have hlm : (ns.map V.int).length = ns.length := List.length_map _
  refine ⟨_, rfl, _, rfl, a, _, rfl, hS, fun p hp => ?_⟩
  rw [cut63 (by rw [hlm]; exact h63)]
  refine ⟨p, _, rfl, .inl (SqL.of upd_same), fun l hl => ?_⟩
  refine ⟨_, _, rfl, ?_⟩
  have s1 : Same H (upd (upd H p (.lst (ns.map V.int))) l (.lst (ns.map V.int))) := (same_new hp _).trans (same_new hl _)
  have hl0 : H l = none := (same_new hp _).free hl
  refine ⟨_, rfl, l, rfl, ⟨_, SqL.of upd_same⟩, for_list (K := K) (a := l) (xs := ns.map V.int) (fun i σ H' => ∃ (m : Int) (v : Option V), σ = [some (.ref a), some (.ref l), some (.int m), v] ∧ -4294967296 < m ∧ m < 4294967296 ∧ H' = upd (upd H p (.lst (ns.map V.int))) l (.lst (ns.map V.int)))
    ⟨_, none, rfl, by decide, by decide, rfl⟩ (fun i σ H' _ ⟨_, _, _, _, _, e⟩ => e ▸ SqL.of upd_same) ?_ ?_⟩
  · rintro i y σ H' hi ⟨m, v, rfl, hm0, hm1, rfl⟩
    obtain ⟨z, _, rfl⟩ := int_at hi
    refine ⟨_, rfl, _, _, rfl, rfl, .inr ⟨by decide, by decide⟩, _, rfl, .inl ⟨_, rfl, _, _, rfl, rfl, (by show (0 : Int) < _; decide), _, _, rfl, rfl, _, _, rfl, rfl, .inl ⟨_, rfl, _, _, rfl, rfl, (by show (0 : Int) < _; decide), ?_⟩⟩⟩
    refine ⟨_, some (.int z), rfl, ?_, ?_, rfl⟩
    · exact Int.lt_of_lt_of_le (by decide) (Int.emod_nonneg _ (by decide))
    · exact Int.lt_trans (Int.emod_lt_of_pos _ (by decide)) (by decide)
  · rintro σ H' ⟨m, v, rfl, hm0, hm1, rfl⟩
    refine ⟨_, rfl, l, _, rfl, SqL.of upd_same, fun g hg => ?_⟩
    refine ⟨_, rfl, (by show 3 ≤ sizeLine; decide), fun d hd => ?_⟩
    have s2 : Same H (upd (upd (upd H p (.lst (ns.map V.int))) l (.lst (ns.map V.int))) g (.lst (ns.map V.int).reverse)) := s1.trans (same_new hg _)
    refine k d g _ (s2.trans (same_new hd _)) (s2.free hd) (s1.free hg) ⟨ns.reverse, m, 0, upd_same, ?_, by rw [List.length_reverse]; exact h63, (ne_of_none upd_same hd).symm⟩
    rw [upd_ne (ne_of_none upd_same hd), upd_same, List.map_reverse]
/-! ### a draw -/
theorem scDraw : FnScope ["_law_deck_here", "_law_below", "_law_mixed", "_law_cell"] ["_law_deck_here", "_law_below"] (defScope sDraw) := ⟨rfl, rfl, rfl, by decide +kernel, rfl, by decide +kernel, by decide +kernel⟩
theorem canLay_ints : ∀ ns : List Int, PyData.canLayAll0 (ns.map .int) = true
  | [] => rfl
  | n :: r => by simp only [List.map, PyData.canLayAll0, PyData.canLay0, canLay_ints r, Bool.and_self]
theorem depth_ints : ∀ ns : List Int, PyData.depthAll (ns.map .int) = 0
  | [] => rfl
  | n :: r => by simp only [List.map, PyData.depthAll, PyData.depth, depth_ints r, Nat.max_self]
theorem shaped_ints (ns : List Int) : SeqAt.shaped (.list (ns.map .int)) = true := by
  simp [SeqAt.shaped, PyData.canLay0, canLay_ints, PyData.depth, depth_ints]
theorem eqv_nil (ns : List Int) : PyData.eqv (.list (ns.map .int)) (.list []) = ns.isEmpty := by
  cases ns <;> simp [PyData.eqv, PyData.eqvAll]
theorem dpAll_ints {H : Hp} : ∀ ns : List Int, DpAll K H (ns.map V.int) (ns.map .int)
  | [] => .nil
  | n :: r => .cons (.int n) (dpAll_ints r)
theorem dp_ints {H : Hp} {a : Addr} {ns : List Int} (h : SqL K H a (ns.map V.int)) : Dp K H (.ref a) (.list (ns.map .int)) := .lst h (dpAll_ints ns)
theorem lst_ne {a b : Addr} {H : Hp} {xs ys : List V} (h : H a = some (.lst xs)) (h' : H b = some (.lst ys)) (e : xs ≠ ys) : a ≠ b := ne_of h h' fun q => e (HO.lst.inj q)
theorem ok_draw {f : Addr} {fd : FuncData} {fW : Addr} (F : Fun K "_law_draw" "_law_draw" sDraw f fd) (T : TxtD mg fW) : FnOk P w K mg base CX0 1 f fd ["_law_deck_here", "_law_below"] spDraw := by
  refine F.ok scDraw (fun vs H Q E h => ?_) (fun cdv A outer s H vs Q E hr h => ?_)
  · obtain ⟨d, g, b, rfl, _⟩ := h
    rfl
  obtain ⟨d, g, b, rfl, hb0, hb1, ⟨ns, m, n, h1, h2, h63, hdg⟩, k⟩ := h
  refine ⟨_, pss_cons (ps_asg (pe_op op_add (pe_ix ix_list (pv 0) pe_int (fun _ _ => rfl)) pe_int) (pg_sub (pv 0) pe_int set_list))
    (pss_cons (ps_set (i := 2) scDraw.nd rfl (Or.inl rfl) (pe_op op_add (pe_ix ix_list (pv 0) pe_int (fun _ _ => rfl)) (pe_op op_mul pe_int (pe_ix ix_list (pv 0) pe_int (fun _ _ => rfl)))))
    (C8.pss_cut (ps_if (pt_cmpR (op_neD hr.units) (pe_ix ix_list (pv 0) pe_int (fun _ _ => rfl)) (pe_lst pa_nil) (nomark _))
        (pss_cons (ps_set (i := 3) scDraw.nd rfl (Or.inl rfl) (pe_bm0 PySem.F.plainAttrs_list PySem.F.slot_list_pop PySem.F.type_list_pop mt_pop (pe_ix ix_list (pv 0) pe_int (fun _ _ => rfl))))
        (pss_cons (ps_if (pt_cmpR op_ge (pv 3) (pe_op op_pow pe_int pe_int) (nomark _))
            (pss_cons (ps_expr (pe_bm PySem.F.plainAttrs_list PySem.F.slot_list_append PySem.F.type_list_append mt_append (pe_ix ix_list (pv 0) pe_int (fun _ _ => rfl)) (pa_cons (pe_op op_fdivN (pv 3) (pv 1)) pa_nil)))
            (pss_one (ps_ret (pe_callTy call_int1 (by rfl) T.int (by decide +kernel) (pa_cons (pe_op op_modN (pv 3) (pv 1)) pa_nil))))) pss_nil)
        (pss_one (ps_set (i := 2) scDraw.nd rfl (Or.inl rfl) (pe_op op_add (pv 2) (pe_op op_mod (pe_callTy call_int1 (by rfl) T.int (by decide +kernel) (pa_cons (pv 3) pa_nil)) pe_int)))))) pss_nil)
    (pss_cons (ps_set (i := 2) scDraw.nd rfl (Or.inl rfl) (pe_op op_mod (pe_callTy call_int1 (by rfl) T.int (by decide +kernel) (pa_cons (pe_op op_add (pe_op op_mul (pv 2) pe_int) pe_int) pa_nil)) pe_int))
    (pss_cons (ps_set (i := 2) scDraw.nd rfl (Or.inl rfl) (pe_op op_mod (pe_callTy call_int1 (by rfl) T.int (by decide +kernel) (pa_cons (pe_op op_add (pe_op op_add (pe_op op_mul (pv 2) (pv 2)) (pe_op op_mul pe_int (pe_ix ix_list (pv 0) pe_int (fun _ _ => rfl)))) pe_int) pa_nil)) pe_int))
    (pss_one (ps_ret (pe_op op_modN (pe_op op_fdiv (pe_op op_mod (pe_op op_mul (pv 2) pe_int) pe_int) pe_int) (pv 1)))))))), ?_⟩
  have t0 : (0 : Int) < 4294967296 := by decide
  -- the third item goes up
  refine ⟨_, rfl, d, _, 2, _, rfl, rfl, SqL.of h1, rfl, _, _, rfl, rfl, _, rfl, d, _, 2, 2, rfl, rfl, h1, rfl, ?_⟩
  have hgd : g ≠ d := hdg.symm
  have e1 : (upd H d (.lst ([V.ref g, V.int m, V.int n].set 2 (V.int (n + 1))))) d = some (.lst [.ref g, .int m, .int (n + 1)]) := upd_same
  have e2 : (upd H d (.lst ([V.ref g, V.int m, V.int n].set 2 (V.int (n + 1))))) g = some (.lst (ns.map V.int)) := by rw [upd_ne hgd]; exact h2
  have kp : Keeps d g H (upd H d (.lst ([V.ref g, V.int m, V.int n].set 2 (V.int (n + 1))))) := (Keeps.refl d g H).upd_d _
  generalize upd H d (.lst ([V.ref g, V.int m, V.int n].set 2 (V.int (n + 1)))) = H1 at e1 e2 kp
  refine ⟨_, rfl, d, _, 1, _, rfl, rfl, SqL.of e1, rfl, _, rfl, d, _, 2, _, rfl, rfl, SqL.of e1, rfl, _, _, rfl, rfl, .inl ⟨by decide, by decide⟩, _, _, rfl, rfl, ?_⟩
  -- what stands behind the if
  refine ⟨fun σ H' => ∃ (x : Int) (v : Option V), σ = [some (.ref d), some (.int b), some (.int x), v] ∧ DeckAt H' d g ∧ Keeps d g H H', ?_, ?_⟩
  · refine ⟨_, rfl, d, _, 0, _, rfl, rfl, SqL.of e1, rfl, Nat.zero_le _, fun p hp => ?_⟩
    have hpd : p ≠ d := (ne_of_none e1 hp).symm
    have hpg : p ≠ g := (ne_of_none e2 hp).symm
    have e3 : upd H1 p (.lst []) d = some (.lst [.ref g, .int m, .int (n + 1)]) := by rw [upd_ne hpd.symm]; exact e1
    have e4 : upd H1 p (.lst []) g = some (.lst (ns.map V.int)) := by rw [upd_ne hpg.symm]; exact e2
    have kp1 : Keeps d g H (upd H1 p (.lst [])) := kp.trans (.of (same_new hp _))
    refine ⟨_, _, dp_ints (SqL.of e4), .lst (SqL.of upd_same) .nil, shaped_ints ns, rfl, _, rfl, ?_⟩
    rw [eqv_nil]
    generalize upd H1 p (.lst []) = H2 at e3 e4 kp1
    rcases List.eq_nil_or_concat ns with rfl | ⟨ms, z, rfl⟩
    · rw [if_neg (by simp)]
      exact ⟨_, none, rfl, ⟨[], m, n + 1, e3, e4, Nat.zero_le _, hdg⟩, kp1⟩
    · rw [if_pos (by simp)]
      rw [List.concat_eq_append, List.map_append] at e4
      rw [List.concat_eq_append] at h63
      have e4' : H2 g = some (.lst (ms.map V.int ++ [V.int z])) := e4
      have hlast : (ms.map V.int ++ [V.int z])[(ms.map V.int ++ [V.int z]).length - 1]? = some (V.int z) := by simp
      have hms : ms.length + 1 ≤ 63 := by rw [List.length_append, List.length_singleton] at h63; exact h63
      refine ⟨_, rfl, d, _, 0, _, rfl, rfl, SqL.of e3, rfl, .inl ⟨rfl, _, SqL.of e4'⟩, g, _, _, rfl, rfl, e4', hlast, ?_⟩
      have e5 : upd H2 g (.lst (ms.map V.int ++ [V.int z]).dropLast) d = some (.lst [.ref g, .int m, .int (n + 1)]) := by rw [upd_ne hdg]; exact e3
      have e6 : upd H2 g (.lst (ms.map V.int ++ [V.int z]).dropLast) g = some (.lst (ms.map V.int)) := by rw [upd_same, List.dropLast_concat]
      have kp3 : Keeps d g H (upd H2 g (.lst (ms.map V.int ++ [V.int z]).dropLast)) := kp1.upd_g _
      generalize upd H2 g (.lst (ms.map V.int ++ [V.int z]).dropLast) = H3 at e5 e6 kp3
      refine ⟨_, rfl, _, _, rfl, rfl, ⟨by decide, by decide, by decide⟩, _, _, rfl, rfl, _, rfl, ?_⟩
      refine ite2 (fun _ => ?_) (fun _ => ?_)
      · refine ⟨_, rfl, d, _, 0, _, rfl, rfl, SqL.of e5, rfl, .inl ⟨rfl, _, SqL.of e6⟩, _, rfl, _, rfl, _, _, rfl, rfl, ⟨by omega, by omega⟩, g, _, _, rfl, rfl, e6, ?_, ?_⟩
        · rw [List.length_map]
          exact small1000 (by omega)
        · refine ⟨_, rfl, _, rfl, _, _, rfl, rfl, (by show b ≠ 0; omega), .inl ⟨_, rfl, ?_⟩⟩
          refine k _ _ (Int.fmod_nonneg_of_pos _ hb0) (Int.fmod_lt_of_pos _ hb0) ⟨ms ++ [z.fdiv b], m, n + 1, ?_, ?_, ?_, hdg⟩ (kp3.upd_g _)
          · rw [upd_ne hdg]; exact e5
          · rw [upd_same, List.map_append]; rfl
          · rw [List.length_append, List.length_singleton]; exact hms
      · refine ⟨_, rfl, _, rfl, .inl ⟨_, rfl, _, _, rfl, rfl, (by show (0 : Int) < _; decide), _, _, rfl, rfl, ?_⟩⟩
        exact ⟨_, _, rfl, ⟨ms, m, n + 1, e5, e6, by omega, hdg⟩, kp3⟩
  · rintro σ H2 ⟨x, v, rfl, ⟨ns', m', n', g1, g2, g63, _⟩, kp2⟩
    have hc : (0 : Int) < 2147483647 := by decide
    refine ⟨_, rfl, _, _, rfl, rfl, .inr ⟨by decide, by decide⟩, _, _, rfl, rfl, .inl ⟨_, rfl, _, _, rfl, rfl, (by show (0 : Int) < _; decide), ?_⟩⟩
    refine ⟨_, rfl, _, rfl, _, _, rfl, rfl, .inl ⟨?b1, ?b2⟩, ?_⟩
    case b1 => exact Int.lt_of_lt_of_le (by decide) (Int.emod_nonneg _ (by decide))
    case b2 => exact Int.lt_trans (Int.emod_lt_of_pos _ (by decide)) (by decide)
    refine ⟨_, rfl, d, _, 2, _, rfl, rfl, SqL.of g1, rfl, _, _, rfl, rfl, .inl ⟨by decide, by decide⟩, _, _, rfl, rfl, _, _, rfl, rfl, .inl ⟨_, rfl, _, _, rfl, rfl, (by show (0 : Int) < _; decide), ?_⟩⟩
    refine ⟨_, rfl, _, _, rfl, rfl, .inr ⟨by decide, by decide⟩, _, _, rfl, rfl, (by show (0 : Int) < _; decide), _, _, rfl, rfl, ⟨by decide, by decide⟩, _, rfl, _, _, rfl, rfl, (by show b ≠ 0; omega), ?_⟩
    have hbb : 0 ≤ b := by omega
    exact k _ H2 (Int.fmod_nonneg_of_pos _ hb0) (Int.fmod_lt_of_pos _ hb0) ⟨ns', m', n', g1, g2, g63, hdg⟩ kp2
/-! ### a pick -/
theorem scPick : FnScope ["_law_deck_here", "_law_some"] ["_law_deck_here", "_law_some"] (defScope sPick) := ⟨rfl, rfl, rfl, by decide +kernel, rfl, by decide +kernel, by decide +kernel⟩
theorem Keeps.seq {d g a : Addr} {H H' : Hp} {xs : List V} (k : Keeps d g H H') (n1 : a ≠ d) (n2 : a ≠ g) (h : SqL K H a xs) : SqL K H' a xs := by
  rcases h with (h | ⟨o, h⟩) | h
  · exact .inl (.inl (k _ _ n1 n2 h))
  · exact .inl (.inr ⟨o, k _ _ n1 n2 h⟩)
  · exact .inr h
theorem ok_pick {f : Addr} {fd : FuncData} {fW : Addr} {fdW : FuncData} (F : Fun K "_law_pick" "_law_pick" sPick f fd) (FW : Fun K "_law_draw" "_law_draw" sDraw fW fdW) (bW : Binds K fdW ["_law_deck_here", "_law_below"] []) (T : TxtD mg fW) : FnOk P w K mg base CX0 2 f fd ["_law_deck_here", "_law_some"] (spPick K) := by
  have GW : FnOk P w K mg base CX0 1 fW fdW ["_law_deck_here", "_law_below"] spDraw := ok_draw FW T
  refine F.ok scPick (fun vs H Q E h => ?_) (fun cdv A outer s H vs Q E hr h => ?_)
  · obtain ⟨d, g, p, xs, rfl, _⟩ := h
    rfl
  obtain ⟨d, g, p, xs, rfl, hS, n1, n2, hne, hlen, hD, k⟩ := h
  refine ⟨_, pss_one (ps_ret (pe_ix ix_list (pv 1) (pe_call GW hr rfl T.draw FW.kp bW .nil pass0 (pa_cons (pv 0) (pa_cons (pe_callB call_len_seq (by rfl) T.len PySem.boot_len (pa_cons (pv 1) pa_nil)) pa_nil))) (fun _ _ => rfl))), ?_⟩
  have hpos : 0 < xs.length := List.length_pos_iff.mpr hne
  refine ⟨_, rfl, _, rfl, _, rfl, p, _, rfl, .inl hS, d, g, _, rfl, by omega, by omega, hD, fun r H' h0 h1 hD' kp => ?_⟩
  have hr : r.toNat < xs.length := by omega
  have er : r = ((r.toNat : Nat) : Int) := by omega
  have hx : atI xs r = some xs[r.toNat] := at_of er (List.getElem?_eq_getElem hr)
  exact ⟨p, _, r, _, rfl, rfl, kp.seq n1 n2 hS, hx, k _ H' (List.getElem_mem hr) hD' kp⟩
end
end Vf

set_option Elab.async false
set_option linter.all false
set_option maxRecDepth 100000
set_option maxHeartbeats 4000000
namespace Vf
open PySem PySem.Spec PyProof.Rows L2 L2.Vx
/-! ### machines as they stand in the heap -/
abbrev nI (n : Nat) : V := .int (n : Int)
/-- a tuple of states -/
def TupN (K : PySem.W.Frag) (H : Hp) (v : V) (ns : List Nat) : Prop := ∃ a, v = .ref a ∧ SqT K H a (ns.map nI)
def LstN (H : Hp) (a : Addr) (ns : List Nat) : Prop := H a = some (.lst (ns.map nI))
theorem same_T {K : PySem.W.Frag} {H H' : Hp} {a : Addr} {xs : List V} (s : Same H H') (h : SqT K H a xs) : SqT K H' a xs := by
  rcases h with (h | h) | h
  · exact .inl (.inl (s _ _ h))
  · exact .inl (.inr (h.imp fun o z => s _ _ z))
  · exact .inr h
theorem TupN.same {K : PySem.W.Frag} {H H' : Hp} {v : V} {ns : List Nat} (h : TupN K H v ns) (s : Same H H') : TupN K H' v ns := h.imp fun a z => ⟨z.1, same_T s z.2⟩
/-- the rows of a machine -/
def RowsAt (K : PySem.W.Frag) (H : Hp) (v : V) (rows : List (List Nat)) : Prop :=
  ∃ (a : Addr) (bs : List V), v = .ref a ∧ SqT K H a bs ∧ bs.length = rows.length ∧ ∀ (i : Nat) (b : V) (r : List Nat), bs[i]? = some b → rows[i]? = some r → TupN K H b r
theorem RowsAt.same {K : PySem.W.Frag} {H H' : Hp} {v : V} {rows : List (List Nat)} (h : RowsAt K H v rows) (s : Same H H') : RowsAt K H' v rows := by
  obtain ⟨a, bs, h1, h2, h3, h4⟩ := h
  exact ⟨a, bs, h1, same_T s h2, h3, fun i b r e1 e2 => (h4 i b r e1 e2).same s⟩
theorem ixN_nat {n j : Nat} (h : j < n) : ixN n (j : Int) = some j := by
  unfold ixN
  rw [if_pos (by omega), if_pos (by omega)]
  rfl
/-! ### end_flags -/
abbrev sFlags : Stmt := top 9
def flagsOf (m : Nat) (ends : List Nat) : List Bool := (List.range m).map fun i => decide (i ∈ ends)
def spFlags (K : PySem.W.Frag) : Sp := fun vs H Q _ => ∃ (m : Nat) (e : V) (ends : List Nat), vs = [nI m, e] ∧ TupN K H e ends ∧ (∀ x ∈ ends, x < m) ∧ m ≤ 100000 ∧
  ∀ l H', Same H H' → H l = none → H' l = some (.lst ((flagsOf m ends).map V.bl)) → Q (.ref l) H'
theorem flags_set {m x : Nat} {es : List Nat} (h : x < m) : ((flagsOf m es).map V.bl).set x (.bl true) = (flagsOf m (es ++ [x])).map V.bl := by
  unfold flagsOf
  apply List.ext_getElem?
  intro i
  by_cases e : x = i
  · subst e
    rw [List.getElem?_set_self (by simp; exact h)]
    simp [h]
  · rw [List.getElem?_set_ne e]
    simp only [List.getElem?_map, List.mem_append, List.mem_singleton]
    by_cases hi : i < m
    · rw [List.getElem?_range hi]
      simp [Ne.symm e]
    · rw [List.getElem?_eq_none (by simp; omega)]
      rfl
section
variable {P : Program} {w : World} {K : PySem.W.Frag} {mg : Str → Option Value} {base : Heap}
theorem scFlags : FnScope ["many", "ends", "flags", "end"] ["many", "ends"] (defScope sFlags) := ⟨rfl, rfl, rfl, by decide +kernel, rfl, by decide +kernel, by decide +kernel⟩
theorem ok_flags {f : Addr} {fd : FuncData} (F : Fun K "end_flags" "end_flags" sFlags f fd) : FnOk P w K mg base CX0 1 f fd ["many", "ends"] (spFlags K) := by
  refine F.ok scFlags (fun vs H Q E h => ?_) (fun cdv A outer s H vs Q E hr h => ?_)
  · obtain ⟨m, e, ends, rfl, _⟩ := h
    rfl
  obtain ⟨m, e, ends, rfl, he, hlt, hm, q⟩ := h
  refine ⟨_, pss_cons (ps_set (i := 2) scFlags.nd rfl (Or.inl rfl) (pe_op op_rep (pe_lst (pa_cons pe_bl pa_nil)) (pv 0)))
    (pss_cons (ps_for PassesOwn.never rfl (pi_tup (pv 1)) (pg_name (i := 3) scFlags.nd rfl (Or.inl rfl)) (pss_one (ps_asg pe_bl (pg_sub (pv 2) (pv 3) set_list))))
    (pss_one (ps_ret (pv 2)))), ?_⟩
  refine ⟨by show 1 ≤ sizeLine; decide, fun l hl => ?_⟩
  have s1 := same_new hl (.lst [V.bl false])
  refine ⟨_, rfl, l, (m : Int), _, rfl, rfl, upd_same, by omega, by omega, ?_, fun p hp => ?_⟩
  · show 1 * ((m : Int)).toNat ≤ sizeLine
    rw [sizeLine_eq]
    omega
  have s2 := s1.trans (same_new hp (.lst (List.replicate ((m : Int)).toNat [V.bl false]).flatten))
  have e2 : upd (upd H l (.lst [V.bl false])) p (.lst (List.replicate ((m : Int)).toNat [V.bl false]).flatten) p = some (.lst ((flagsOf m []).map V.bl)) := by
    rw [upd_same]
    congr 2
    unfold flagsOf
    rw [show ((m : Int)).toNat = m by omega]
    apply List.ext_getElem
    · simp
    · intro i h1 h2
      simp
  have hpH := s1.free hp
  generalize upd (upd H l (.lst [V.bl false])) p (.lst (List.replicate ((m : Int)).toNat [V.bl false]).flatten) = H2 at s2 e2 ⊢
  obtain ⟨a, rfl, ha⟩ := he
  refine ⟨_, rfl, a, rfl, ⟨_, same_T s2 ha⟩, for_tup (K := K) (a := a) (xs := ends.map nI) (fun i σ H' => ∃ v, σ = [some (nI m), some (.ref a), some (.ref p), v] ∧ H' p = some (.lst ((flagsOf m (ends.take i)).map V.bl)) ∧ Same H H')
    ⟨none, rfl, e2, s2⟩ (fun i σ H' _ ⟨v, _, _, s⟩ => same_T s ha) ?_ ?_⟩
  · rintro i x σ H' hi ⟨v, rfl, f1, f2⟩
    rw [List.getElem?_map] at hi
    obtain ⟨n, hn, rfl⟩ := Option.map_eq_some_iff.mp hi
    have hnm := hlt n (List.mem_of_getElem? hn)
    refine ⟨_, rfl, _, rfl, p, _, (n : Int), n, rfl, rfl, f1, ixN_nat (by simp [flagsOf]; exact hnm), _, rfl, ?_, fun b o e => ?_⟩
    · rw [upd_same, flags_set hnm, List.take_add_one, hn]
      rfl
    · rw [upd_ne (ne_of_none e hpH)]
      exact f2 b o e
  · rintro σ H' ⟨v, rfl, f1, f2⟩
    rw [List.length_map, List.take_length] at f1
    exact ⟨_, rfl, q p H' f2 hpH f1⟩
end
end Vf

set_option Elab.async false
set_option linter.all false
set_option maxRecDepth 100000
set_option maxHeartbeats 4000000
namespace Vf
open PySem PySem.Spec PyProof.Rows L2 L2.Vx
/-! ### states reached, as a function -/
def into (o : List Nat) (t : Nat) : List Nat := if t ∈ o then o else o ++ [t]
def rowOf (rows : List (List Nat)) (s : Nat) : List Nat := rows.getD s []
def bfs (rows : List (List Nat)) : Nat → Nat → List Nat → List Nat
  | 0, _, o => o
  | f + 1, i, o => if i < o.length then bfs rows f (i + 1) ((rowOf rows (o.getD i 0)).foldl into o) else o
def reach (rows : List (List Nat)) (s : Nat) : List Nat := bfs rows (rows.length + 1) 0 [s]
/-- all targets are states -/
def RowsIn (rows : List (List Nat)) (m : Nat) : Prop := ∀ r ∈ rows, ∀ t ∈ r, t < m
theorem rowOf_mem {rows : List (List Nat)} {m s : Nat} (h : RowsIn rows m) : ∀ t ∈ rowOf rows s, t < m := fun t ht => by
  unfold rowOf at ht
  rw [List.getD_eq_getElem?_getD] at ht
  cases e : rows[s]? with
  | none => rw [e] at ht; simp at ht
  | some r => rw [e] at ht; exact h r (List.mem_of_getElem? e) t ht
theorem nodup_lt : ∀ (m : Nat) (l : List Nat), l.Nodup → (∀ x ∈ l, x < m) → l.length ≤ m := by
  intro m l d h
  have q : ∀ (l r : List Nat), l.Nodup → (∀ k ∈ l, k ∈ r) → l.length ≤ r.length := by
    intro l
    induction l with
    | nil => intro r _ _; exact Nat.zero_le _
    | cons x l ih =>
      intro r d s
      obtain ⟨d1, d2⟩ := List.nodup_cons.mp d
      have p := (List.perm_cons_erase (s x (List.mem_cons_self ..))).length_eq
      have q := ih (r.erase x) d2 fun k hk => (List.mem_erase_of_ne fun z : k = x => d1 (by rw [← z]; exact hk)).mpr (s k (List.mem_cons_of_mem _ hk))
      simp only [List.length_cons] at p ⊢
      omega
  have z := q l (List.range m) d fun k hk => List.mem_range.mpr (h k hk)
  rw [List.length_range] at z
  exact z
theorem into_nodup {o : List Nat} {t : Nat} (d : o.Nodup) : (into o t).Nodup := by
  unfold into
  split
  · exact d
  · rename_i h
    exact List.nodup_append.mpr ⟨d, by simp, fun a ha b hb e => h (by rw [List.mem_singleton.mp hb] at e; exact e ▸ ha)⟩
theorem into_lt {o : List Nat} {t m : Nat} (h : ∀ x ∈ o, x < m) (ht : t < m) : ∀ x ∈ into o t, x < m := fun x hx => by
  unfold into at hx
  split at hx
  · exact h x hx
  · rcases List.mem_append.mp hx with hx | hx
    · exact h x hx
    · rw [List.mem_singleton.mp hx]; exact ht
theorem fold_into {m : Nat} : ∀ (r : List Nat) (o : List Nat), o.Nodup → (∀ x ∈ o, x < m) → (∀ t ∈ r, t < m) → (r.foldl into o).Nodup ∧ (∀ x ∈ r.foldl into o, x < m)
  | [], o, d, h, _ => ⟨d, h⟩
  | t :: r, o, d, h, hr => fold_into r (into o t) (into_nodup d) (into_lt h (hr t (List.mem_cons_self ..))) fun x hx => hr x (List.mem_cons_of_mem _ hx)
theorem into_len (o : List Nat) (t : Nat) : o.length ≤ (into o t).length := by
  unfold into
  split
  · exact Nat.le_refl _
  · rw [List.length_append]; omega
theorem fold_len : ∀ (r o : List Nat), o.length ≤ (r.foldl into o).length
  | [], _ => Nat.le_refl _
  | t :: r, o => Nat.le_trans (into_len o t) (fold_len r (into o t))
/-! ### states_reached -/
abbrev sReach : Stmt := top 12
def spReach (K : PySem.W.Frag) : Sp := fun vs H Q _ => ∃ (v : V) (rows : List (List Nat)) (s : Nat), vs = [v, nI s] ∧ RowsAt K H v rows ∧ RowsIn rows rows.length ∧ s < rows.length ∧ rows.length ≤ 1000 ∧
  ∀ l H', Same H H' → H l = none → H' l = some (.lst ((reach rows s).map nI)) → Q (.ref l) H'
structure TxtM (mg : Str → Option Value) : Prop where
  len : mg "len" = none
  tuple : mg "tuple" = none
  enu : mg "enumerate" = none
  range : mg "range" = none
  int : mg "int" = none
  list : mg "list" = none
/-- the dict of what was seen: as the list -/
def seenK (o : List Nat) : List (Key × V) := o.map fun x : Nat => ((Sum.inl ((x : Nat) : Int) : Key), V.bl true)
theorem seen_val : ∀ (o : List Nat) (t : Nat), (valV (seenK o) (Sum.inl (t : Int))).isSome = decide (t ∈ o)
  | [], t => by simp [seenK, valV]
  | x :: r, t => by
    by_cases e : x = t
    · subst e
      rw [show seenK (x :: r) = (Sum.inl (x : Int), V.bl true) :: seenK r from rfl, valV_pos rfl]
      simp
    · have e' : ¬ (Sum.inl (x : Int) : Key) = Sum.inl (t : Int) := fun z => e (by have z2 := Sum.inl.inj z; omega)
      rw [show seenK (x :: r) = (Sum.inl (x : Int), V.bl true) :: seenK r from rfl, valV_neg e', seen_val r t]
      simp [Ne.symm e]
theorem RowsAt.row {K : PySem.W.Frag} {H : Hp} {v : V} {rows : List (List Nat)} (h : RowsAt K H v rows) {s : Nat} (hs : s < rows.length) : ∃ (a : Addr) (bs : List V) (b : Addr), v = .ref a ∧ SqT K H a bs ∧ bs[s]? = some (.ref b) ∧ SqT K H b ((rowOf rows s).map nI) := by
  obtain ⟨a, bs, h1, h2, h3, h4⟩ := h
  have hb : bs[s]? = some bs[s] := List.getElem?_eq_getElem (by omega)
  have hr : rows[s]? = some (rowOf rows s) := by
    unfold rowOf
    rw [List.getD_eq_getElem?_getD, List.getElem?_eq_getElem hs]
    rfl
  obtain ⟨b, e1, e2⟩ := h4 s _ _ hb hr
  exact ⟨a, bs, b, h1, h2, by rw [hb, e1], e2⟩
def ivAt (σ : L2.St) (k : Nat) : Nat := match σ[k]? with
  | some (some (V.int i)) => i.toNat
  | _ => 0
section
variable {P : Program} {w : World} {K : PySem.W.Frag} {mg : Str → Option Value} {base : Heap}
theorem scReach : FnScope ["rows", "start", "order", "seen", "at", "state", "target"] ["rows", "start"] (defScope sReach) := ⟨rfl, rfl, rfl, by decide +kernel, rfl, by decide +kernel, by decide +kernel⟩
theorem ok_reach {f : Addr} {fd : FuncData} (F : Fun K "states_reached" "states_reached" sReach f fd) (T : TxtM mg) : FnOk P w K mg base CX0 1 f fd ["rows", "start"] (spReach K) := by
  refine F.ok scReach (fun vs H Q E h => ?_) (fun cdv A outer s H vs Q E hr h => ?_)
  · obtain ⟨v, rows, s, rfl, _⟩ := h
    rfl
  obtain ⟨v, rows, st, rfl, hR, hin, hst, hm, q⟩ := h
  have hu := hu_of hr
  refine ⟨_, pss_cons (ps_set (i := 2) scReach.nd rfl (Or.inl rfl) (pe_lst (pa_cons (pv 1) pa_nil)))
    (pss_cons (ps_set (i := 3) scReach.nd rfl (Or.inl rfl) (pe_disp (pps_cons (pv 1) pe_bl pps_nil) (by rfl) (by rfl) (fun z => by cases z) (by decide)))
    (pss_cons (ps_set (i := 4) scReach.nd rfl (Or.inl rfl) pe_int)
    (pss_cons (ps_while PassesOwn.never (pt_cmpR op_lt (pv 4) (pe_callB call_len_seq (by rfl) T.len PySem.boot_len (pa_cons (pv 2) pa_nil)) (nomark _))
      (pss_cons (ps_set (i := 5) scReach.nd rfl (Or.inl rfl) (pe_ix ix_list (pv 2) (pv 4) (fun _ _ => rfl)))
      (pss_cons (ps_for PassesOwn.never rfl (pi_tup (pe_ix ix_tup (pv 0) (pv 5) (fun _ _ => rfl))) (pg_name (i := 6) scReach.nd rfl (Or.inl rfl))
        (pss_one (ps_if (pt_cmp (pc_dnotin hu (pv 6) (pv 3))) (pss_cons (ps_dput hu (pv 3) (pv 6) pe_bl rfl) (pss_one (ps_expr (pe_bm PySem.F.plainAttrs_list PySem.F.slot_list_append PySem.F.type_list_append mt_append (pv 2) (pa_cons (pv 6) pa_nil))))) pss_nil)))
      (pss_one (ps_aug (i := 4) scReach.nd rfl (Or.inl rfl) pe_int ip_add)))))
    (pss_one (ps_ret (pv 2)))))), ?_⟩
  refine ⟨_, rfl, by show 1 ≤ sizeLine; decide, fun l hl => ?_⟩
  intro d hd
  refine ⟨_, rfl, upd_same, [(Sum.inl (st : Int), .bl true)], rfl, (by show 1 ≤ 15; decide), ?_⟩
  rw [upd_upd]
  have s0 : Same H (upd (upd H l (.lst [nI st])) d (.dK (mergeK [] [(Sum.inl (st : Int), .bl true)]))) := (same_new hl _).trans (same_new hd _)
  have f1 : upd (upd H l (.lst [nI st])) d (.dK (mergeK [] [(Sum.inl (st : Int), .bl true)])) l = some (.lst (([st] : List Nat).map nI)) := by rw [upd_ne (ne_of_none upd_same hd), upd_same]; rfl
  have f2 : upd (upd H l (.lst [nI st])) d (.dK (mergeK [] [(Sum.inl (st : Int), .bl true)])) d = some (.dK (seenK [st])) := by rw [upd_same]; rfl
  have hdH : H d = none := (same_new hl (.lst [nI st])).free hd
  have hld : l ≠ d := ne_of_none upd_same hd
  generalize upd (upd H l (.lst [nI st])) d (.dK (mergeK [] [(Sum.inl (st : Int), .bl true)])) = H1 at s0 f1 f2 ⊢
  clear hd
  have bound : ∀ o : List Nat, o.Nodup → (∀ x ∈ o, x < rows.length) → o.length ≤ rows.length := fun o a b => nodup_lt _ o a b
  refine while_by (fun σ H' => ∃ (o : List Nat) (i : Nat) (v5 v6 : Option V), σ = [some v, some (nI st), some (.ref l), some (.ref d), some (nI i), v5, v6] ∧ H' l = some (.lst (o.map nI)) ∧ H' d = some (.dK (seenK o)) ∧
      o.Nodup ∧ (∀ x ∈ o, x < rows.length) ∧ i ≤ o.length ∧ bfs rows (rows.length + 1 - i) i o = reach rows st ∧ Same H H')
    (fun (σ : L2.St) _ => rows.length - ivAt σ 4) ?_ ?_ ?_
  · refine ⟨[st], 0, none, none, rfl, f1, f2, by simp, fun x hx => ?_, Nat.zero_le _, rfl, s0⟩
    rw [List.mem_singleton.mp hx]
    exact hst
  · rintro σ H' ⟨o, i, v5, v6, rfl, g1, g2, nd, lt, hi, hb, sm⟩
    refine ⟨_, rfl, _, rfl, l, _, rfl, .inl (SqL.of g1), _, _, rfl, rfl, _, rfl, ?_⟩
    rw [List.length_map]
    refine ite2 (fun hlt => ?_) (fun hge => ?_)
    · have hil : i < o.length := by have := of_decide_eq_true hlt; omega
      have him : i < rows.length := Nat.lt_of_lt_of_le hil (bound o nd lt)
      have hoi : o[i]? = some (o.getD i 0) := by rw [List.getD_eq_getElem?_getD, List.getElem?_eq_getElem hil]; rfl
      have hsm : o.getD i 0 < rows.length := lt _ (List.mem_of_getElem? hoi)
      obtain ⟨a, bs, b, rfl, ha, hbs, hrow⟩ := hR.row hsm
      have ha' := same_T sm ha
      refine ⟨_, rfl, _, rfl, l, _, _, nI (o.getD i 0), rfl, rfl, SqL.of g1, atI_nat (by rw [List.getElem?_map, hoi]; rfl), ?_⟩
      refine ⟨_, rfl, _, rfl, a, _, _, .ref b, rfl, rfl, ha', atI_nat hbs, b, rfl, ⟨_, same_T sm hrow⟩, ?_⟩
      refine for_tup (K := K) (a := b) (xs := (rowOf rows (o.getD i 0)).map nI) (fun j σ H'' => ∃ v6, σ = [some (.ref a), some (nI st), some (.ref l), some (.ref d), some (nI i), some (nI (o.getD i 0)), v6] ∧
        H'' l = some (.lst ((((rowOf rows (o.getD i 0)).take j).foldl into o).map nI)) ∧ H'' d = some (.dK (seenK (((rowOf rows (o.getD i 0)).take j).foldl into o))) ∧ Same H H'') ⟨v6, rfl, g1, g2, sm⟩ (fun j σ H'' _ ⟨_, _, _, _, s⟩ => same_T s hrow) ?_ ?_
      · rintro j x σ H2 hj ⟨u6, rfl, k1, k2, k3⟩
        rw [List.getElem?_map] at hj
        obtain ⟨t, ht, rfl⟩ := Option.map_eq_some_iff.mp hj
        have hfold := fold_into ((rowOf rows (o.getD i 0)).take j) o nd lt fun t ht => rowOf_mem hin t (List.mem_of_mem_take ht)
        have hnx : ((rowOf rows (o.getD i 0)).take (j + 1)).foldl into o = into (((rowOf rows (o.getD i 0)).take j).foldl into o) t := by
          rw [List.take_add_one, ht, List.foldl_append]
          rfl
        rw [hnx]
        have ln := bound _ hfold.1 hfold.2
        generalize ((rowOf rows (o.getD i 0)).take j).foldl into o = o2 at k1 k2 hfold ln ⊢
        refine ⟨_, rfl, _, rfl, d, _, rfl, DGet.k (k := Sum.inl (t : Int)) k2, _, rfl, ?_⟩
        rw [seen_val]
        unfold into
        by_cases c : t ∈ o2
        · rw [if_pos c, decide_eq_true c]
          exact ⟨_, rfl, k1, k2, k3⟩
        · rw [if_neg c, decide_eq_false c]
          have hv : valV (seenK o2) (Sum.inl (t : Int)) = none := by
            cases e : valV (seenK o2) (Sum.inl (t : Int)) with
            | none => rfl
            | some y =>
              have z := seen_val o2 t
              rw [e, decide_eq_false c] at z
              exact nomatch z
          have hs : (seenK o2).length = o2.length := List.length_map _
          refine ⟨_, rfl, _, rfl, d, _, rfl, DPut.k (k := Sum.inl (t : Int)) k2 (by rw [hs]; exact Nat.lt_of_le_of_lt ln (Nat.lt_of_le_of_lt hm (by decide))), ?_⟩
          rw [putK_new _ hv]
          have k1' : upd H2 d (.dK (seenK o2 ++ [(Sum.inl (t : Int), V.bl true)])) l = some (.lst (o2.map nI)) := by rw [upd_ne hld]; exact k1
          refine ⟨_, rfl, .inl ⟨rfl, _, SqL.of k1'⟩, _, rfl, l, _, _, rfl, rfl, k1', by rw [List.length_map]; exact Nat.lt_of_le_of_lt ln (Nat.lt_of_le_of_lt hm (by decide)), _, rfl, ?_, ?_, fun c u e => ?_⟩
          · rw [upd_same, List.map_append]; rfl
          · rw [upd_ne hld.symm, upd_same]
            unfold seenK
            rw [List.map_append]
            rfl
          · rw [upd_ne (ne_of_none e hl), upd_ne (ne_of_none e hdH)]
            exact k3 c u e
      · rintro σ H2 ⟨u6, rfl, k1, k2, k3⟩
        rw [List.length_map, List.take_length] at k1 k2
        have hfold := fold_into (rowOf rows (o.getD i 0)) o nd lt fun t ht => rowOf_mem hin t ht
        have hpre : o.length ≤ ((rowOf rows (o.getD i 0)).foldl into o).length := fold_len _ _
        refine ⟨_, rfl, _, _, rfl, rfl, ⟨_, i + 1, _, _, rfl, k1, k2, hfold.1, hfold.2, by omega, ?_, k3⟩, ?_⟩
        · rw [← hb, show rows.length + 1 - i = (rows.length + 1 - (i + 1)) + 1 by omega]
          conv => rhs; unfold bfs
          rw [if_pos hil]
        · show rows.length - ((i : Int) + 1).toNat < rows.length - ((i : Int)).toNat
          omega
    · have hie : ¬ i < o.length := fun z => hge (decide_eq_true (by omega))
      have e : reach rows st = o := by
        rw [← hb, show rows.length + 1 - i = (rows.length - i) + 1 by have := bound o nd lt; omega]
        unfold bfs
        rw [if_neg hie]
      exact ⟨_, rfl, q l H' sm hl (by rw [e]; exact g1)⟩
  · rintro σ H' Q1 Q2 w ⟨x, e1, y, e2, p, n, e3, hs, i, j, e4, e5, k, e6, z⟩
    exact ⟨x, e1, y, e2, p, n, e3, hs, i, j, e4, e5, k, e6, w _ _ z⟩
end
end Vf

set_option Elab.async false
set_option linter.all false
set_option maxRecDepth 100000
set_option maxHeartbeats 4000000
namespace Vf
open PySem PySem.Spec PyProof.Rows L2 L2.Vx
/-! ### a machine begun in a state -/
def renum (rows : List (List Nat)) (o : List Nat) : List (List Nat) := o.map fun s => (rowOf rows s).map fun t => o.idxOf t
def endsAt (o ends : List Nat) : List Nat := (List.range o.length).filter fun i => decide (o.getD i 0 ∈ ends)
def numK (o : List Nat) : List (Key × V) := (List.range o.length).map fun i => ((Sum.inl ((o.getD i 0 : Nat) : Int) : Key), nI i)
abbrev sStarted : Stmt := top 13
def spStarted (K : PySem.W.Frag) : Sp := fun vs H Q _ => ∃ (v e : V) (rows : List (List Nat)) (ends : List Nat) (s : Nat), vs = [v, e, nI s] ∧ RowsAt K H v rows ∧ TupN K H e ends ∧ RowsIn rows rows.length ∧ (∀ x ∈ ends, x < rows.length) ∧ s < rows.length ∧ rows.length ≤ 1000 ∧
  (∀ r ∈ rows, r.length ≤ 1000) ∧ ∀ t a b H', Same H H' → H t = none → H' t = some (.tup [a, b]) → RowsAt K H' a (renum rows (reach rows s)) → TupN K H' b (endsAt (reach rows s) ends) → Q (.ref t) H'
/-- a dict comprehension over any walk -/
theorem dc_it {J : It} {n : Nat} {G : Hp → Prop} {Y : Nat → Hp → V → Hp → Prop} (w : Walk J n G Y) {g : TG} {tt : TT} {tk tv : TE} {vs : List Nat} {σ : L2.St} {H1 : Hp} {D : Addr} {Qd : Hp → Prop} (Pv : Nat → Hp → Prop) (h0 : Pv 0 (upd H1 D (.dK []))) (hG : ∀ i H, i ≤ n → Pv i H → G H)
    (hs : ∀ i x H H', i < n → Pv i H → Y i H x H' → g x (wipe σ vs) H' fun σ2 H2 => wipe σ2 vs = wipe σ vs ∧ tt σ2 H2 fun b H3 =>
      if b = true then tk σ2 H3 fun y H4 => tv σ2 H4 fun z H5 => ∃ kvs k, y = kV k ∧ H5 D = some (.dK kvs) ∧ kvs.length < sizeLine ∧ Pv (i + 1) (upd H5 D (.dK (putK kvs k z))) else Pv (i + 1) H3) (hd : ∀ H, Pv n H → Qd H) :
    ∃ W : Nat → Nat → Hp → Prop, (∃ m, W 0 m (upd H1 D (.dK []))) ∧ ∀ i m H, W i m H →
      (J.stop i H ∧ Qd H) ∨ (J.go i H ∧ ∃ Nx : Hp → Prop, (∀ H', Nx H' → ∃ m', m' < m ∧ W (i + 1) m' H') ∧ ∀ x H', J.yld i H x H' → g x (wipe σ vs) H' fun σ2 H2 => wipe σ2 vs = wipe σ vs ∧ tt σ2 H2 fun b H3 =>
        if b = true then tk σ2 H3 fun y H4 => tv σ2 H4 fun z H5 => ∃ kvs k, y = kV k ∧ H5 D = some (.dK kvs) ∧ kvs.length < sizeLine ∧ Nx (upd H5 D (.dK (putK kvs k z))) else Nx H3) := by
  refine ⟨fun i m H => m = n - i ∧ i ≤ n ∧ Pv i H, ⟨n, by simp, Nat.zero_le _, h0⟩, ?_⟩
  rintro i m H ⟨rfl, hi, p⟩
  by_cases hlt : i < n
  · exact .inr ⟨w.goes i H hlt (hG i H hi p), Pv (i + 1), fun H' p' => ⟨n - (i + 1), by omega, rfl, hlt, p'⟩, fun x H' y => hs i x H H' hlt p (w.yields i H x H' hlt (hG i H hi p) y)⟩
  · obtain rfl : i = n := by omega
    exact .inl ⟨w.stops H (hG i H hi p), hd H p⟩
/-! facts of what is reached -/
theorem into_mem {o : List Nat} {t : Nat} : t ∈ into o t := by
  unfold into
  split
  · assumption
  · exact List.mem_append_right _ (List.mem_singleton.mpr rfl)
theorem into_pre {o : List Nat} {t : Nat} : o <+: into o t := by
  unfold into
  split
  · exact List.prefix_refl _
  · exact List.prefix_append _ _
theorem fold_pre : ∀ (r o : List Nat), o <+: r.foldl into o
  | [], o => List.prefix_refl _
  | t :: r, o => into_pre.trans (fold_pre r (into o t))
theorem fold_mem : ∀ (r o : List Nat) (t : Nat), t ∈ r → t ∈ r.foldl into o
  | [], _, _, h => nomatch h
  | x :: r, o, t, h => by
    rcases List.mem_cons.mp h with h | h
    · subst h
      exact (fold_pre r (into o t)).subset into_mem
    · exact fold_mem r (into o x) t h
theorem pre_getD {o r : List Nat} (h : o <+: r) {i : Nat} (hi : i < o.length) : r.getD i 0 = o.getD i 0 := by
  obtain ⟨z, rfl⟩ := h
  rw [List.getD_eq_getElem?_getD, List.getD_eq_getElem?_getD, List.getElem?_append_left hi]
theorem bfs_ok {rows : List (List Nat)} {m : Nat} (hin : RowsIn rows m) : ∀ (f i : Nat) (o : List Nat), o.Nodup → (∀ x ∈ o, x < m) → i ≤ o.length → m + 1 ≤ f + i → (∀ j, j < i → ∀ t ∈ rowOf rows (o.getD j 0), t ∈ o) →
    (bfs rows f i o).Nodup ∧ (∀ x ∈ bfs rows f i o, x < m) ∧ o <+: bfs rows f i o ∧ ∀ s ∈ bfs rows f i o, ∀ t ∈ rowOf rows s, t ∈ bfs rows f i o
  | 0, i, o, nd, lt, hi, hf, _ => by
    have := nodup_lt m o nd lt
    omega
  | f + 1, i, o, nd, lt, hi, hf, cl => by
    unfold bfs
    by_cases h : i < o.length
    · rw [if_pos h]
      have q := fold_into (rowOf rows (o.getD i 0)) o nd lt fun t ht => rowOf_mem hin t ht
      have pre := fold_pre (rowOf rows (o.getD i 0)) o
      have z := bfs_ok hin f (i + 1) _ q.1 q.2 (Nat.le_trans h (fold_len _ _)) (by omega) fun j hj t ht => by
        by_cases e : j = i
        · subst e
          rw [pre_getD pre h] at ht
          exact fold_mem _ _ _ ht
        · rw [pre_getD pre (by omega)] at ht
          exact pre.subset (cl j (by omega) t ht)
      exact ⟨z.1, z.2.1, pre.trans z.2.2.1, z.2.2.2⟩
    · rw [if_neg h]
      refine ⟨nd, lt, List.prefix_refl _, fun s hs t ht => ?_⟩
      obtain ⟨j, hj, e⟩ := List.getElem_of_mem hs
      refine cl j (by omega) t ?_
      rw [List.getD_eq_getElem?_getD, List.getElem?_eq_getElem hj]
      rw [e]
      exact ht
structure Reached (rows : List (List Nat)) (s : Nat) (o : List Nat) : Prop where
  nd : o.Nodup
  lt : ∀ x ∈ o, x < rows.length
  first : o[0]? = some s
  closed : ∀ x ∈ o, ∀ t ∈ rowOf rows x, t ∈ o
theorem reached {rows : List (List Nat)} {s : Nat} (hin : RowsIn rows rows.length) (hs : s < rows.length) : Reached rows s (reach rows s) := by
  have z := bfs_ok hin (rows.length + 1) 0 [s] (by simp) (fun x hx => by rw [List.mem_singleton.mp hx]; exact hs) (Nat.zero_le _) (Nat.le_refl _) (fun j hj => nomatch hj)
  refine ⟨z.1, z.2.1, ?_, z.2.2.2⟩
  obtain ⟨r, e⟩ := z.2.2.1
  show (bfs rows (rows.length + 1) 0 [s])[0]? = some s
  rw [← e]
  rfl
/-! dicts made of a list's places -/
theorem valV_none {α : Type} (key : α → Key) (val : α → V) (k : Key) : ∀ js : List α, (∀ j ∈ js, key j ≠ k) → valV (js.map fun j => (key j, val j)) k = none
  | [], _ => rfl
  | j :: js, h => by
    rw [List.map_cons, valV_neg (h j (List.mem_cons_self ..))]
    exact valV_none key val k js fun x hx => h x (List.mem_cons_of_mem _ hx)
theorem valV_some {α : Type} (key : α → Key) (val : α → V) (k : Key) (j : α) : ∀ js : List α, j ∈ js → key j = k → (∀ x ∈ js, key x = k → x = j) → valV (js.map fun j => (key j, val j)) k = some (val j)
  | [], h, _, _ => nomatch h
  | x :: js, h, e, u => by
    rw [List.map_cons]
    by_cases c : key x = k
    · rw [valV_pos c, u x (List.mem_cons_self ..) c]
    · rw [valV_neg c]
      refine valV_some key val k j js ?_ e fun y hy => u y (List.mem_cons_of_mem _ hy)
      rcases List.mem_cons.mp h with h | h
      · rw [h] at e
        exact absurd e c
      · exact h
abbrev keyAt (o : List Nat) (i : Nat) : Key := Sum.inl ((o.getD i 0 : Nat) : Int)
theorem getD_at {o : List Nat} {i : Nat} (h : i < o.length) : o[i]? = some (o.getD i 0) := by rw [List.getD_eq_getElem?_getD, List.getElem?_eq_getElem h]; rfl
theorem key_inj {o : List Nat} (nd : o.Nodup) {i j : Nat} (hi : i < o.length) (hj : j < o.length) (e : keyAt o i = keyAt o j) : i = j := by
  have e1 : o.getD i 0 = o.getD j 0 := by have z := Sum.inl.inj e; omega
  have e2 := getD_at hi
  rw [e1, ← getD_at hj] at e2
  rw [List.getElem?_eq_getElem hi, List.getElem?_eq_getElem hj] at e2
  have e3 := Option.some.inj e2
  rcases Nat.lt_trichotomy i j with c | c | c
  · exact absurd e3 (List.pairwise_iff_getElem.mp nd i j hi hj c)
  · exact c
  · exact absurd e3.symm (List.pairwise_iff_getElem.mp nd j i hj hi c)
theorem num_at {o : List Nat} (nd : o.Nodup) {t : Nat} (h : t ∈ o) : valV (numK o) (Sum.inl (t : Int)) = some (nI (o.idxOf t)) := by
  have hi : o.idxOf t < o.length := List.idxOf_lt_length_of_mem h
  have hk : keyAt o (o.idxOf t) = Sum.inl (t : Int) := by
    show (Sum.inl ((o.getD (o.idxOf t) 0 : Nat) : Int) : Key) = _
    rw [List.getD_eq_getElem?_getD, List.getElem?_eq_getElem hi, List.getElem_idxOf]
    rfl
  exact valV_some (keyAt o) (fun i => nI i) _ (o.idxOf t) (List.range o.length) (List.mem_range.mpr hi) hk fun x hx e => key_inj nd (List.mem_range.mp hx) hi (e.trans hk.symm)
section
variable {P : Program} {w : World} {K : PySem.W.Frag} {mg : Str → Option Value} {base : Heap}
/-! rules at a comprehension's own frame -/
theorem tupOf_at {X : Cx} (e : X.K = K) : CallR X (.type "tuple") (fun xs H Q => ∃ p ys, xs = [.ref p] ∧ ((SqL K H p ys ∧ ∀ l, H l = none → Q (.ref l) (upd H l (.tup ys))) ∨ (SqT K H p ys ∧ Q (.ref p) H))) := e ▸ call_tuple_of
theorem ixT_at {X : Cx} (e : X.K = K) : IxR X (rIxT K) := e ▸ ix_tup
theorem ixL_at {X : Cx} (e : X.K = K) : IxR X (rIxL K) := e ▸ ix_list
theorem piT_at {X : Cx} {tg x : Expr} {te : TE} (e : X.K = K) (he : PE X x te) : PI X tg x (iTup K te) := e ▸ pi_tup he
abbrev scIn : Scope := { kind := .function, names := [(".0", .local), ("state", .local), ("tuple", .globalImplicit), ("numbers", .cell), ("rows", .cell)], isGenerator := false, isCoroutine := false, more := [] }
abbrev nStarted : List Str := ["rows", "ends", "start", "order", "numbers", "flags", "new_rows", "number", "state", "target"]
theorem scStarted : FnScope nStarted ["rows", "ends", "start"] (defScope sStarted) := ⟨rfl, rfl, rfl, by decide +kernel, rfl, by decide +kernel, by decide +kernel⟩
theorem ok_started {f fR fF : Addr} {fd fdR fdF : FuncData} (F : Fun K "started_at" "started_at" sStarted f fd) (T : TxtM mg)
    (GR : FnOk P w K mg base CX0 1 fR fdR ["rows", "start"] (spReach K)) (bR : Binds K fdR ["rows", "start"] []) (kR : PySem.W.keepIn K (.ref fR) = true) (mR : mg "states_reached" = some (.ref fR))
    (GF : FnOk P w K mg base CX0 1 fF fdF ["many", "ends"] (spFlags K)) (bF : Binds K fdF ["many", "ends"] []) (kF : PySem.W.keepIn K (.ref fF) = true) (mF : mg "end_flags" = some (.ref fF)) :
    FnOk P w K mg base CX0 2 f fd ["rows", "ends", "start"] (spStarted K) := by
  refine F.ok scStarted (fun vs H Q E h => ?_) (fun cdv A outer s H vs Q E hr h => ?_)
  · obtain ⟨v, e, rows, ends, s, rfl, _⟩ := h
    rfl
  obtain ⟨v, e, rows, ends, st, rfl, hR, hE, hin, hel, hst, hm, hw, q⟩ := h
  have hu := hu_of hr
  refine ⟨_, pss_cons (ps_set (i := 3) scStarted.nd rfl (Or.inl rfl) (pe_call GR hr rfl mR kR bR .nil pass0 (pa_cons (pv 0) (pa_cons (pv 2) pa_nil))))
    (pss_cons (ps_set (i := 4) scStarted.nd rfl (Or.inr rfl) (pe_dc (own := [("number", 7), ("state", 8)]) (g := gTup K 2 (gCons (gName 7) (gCons (gName 8) gNil))) (tt := tYes) rfl scStarted.nd (pi_enum (by rfl) T.enu (pa_cons (pv 3) pa_nil))
        (blkOk_by (N := nStarted) (sc := defScope sStarted) (by decide +kernel)) (fun _ _ _ _ _ => by exact (pg_tup rfl (pgs_cons (pg_name (i := 7) scStarted.nd rfl (Or.inl rfl)) (pgs_cons (pg_name (i := 8) scStarted.nd rfl (Or.inl rfl)) pgs_nil)))) (fun _ _ _ _ _ => pts_nil)
        (fun _ _ _ _ _ => by exact pv 8) (fun _ _ _ _ _ => by exact pv 7)))
    (pss_cons (ps_set (i := 5) scStarted.nd rfl (Or.inr rfl) (pe_call GF hr rfl mF kF bF .nil pass0 (pa_cons (pe_callB call_len_seq (by rfl) T.len PySem.boot_len (pa_cons (pv 0) pa_nil)) (pa_cons (pv 1) pa_nil))))
    (pss_cons (ps_set (i := 6) scStarted.nd rfl (Or.inl rfl) (pe_callTy call_tuple_of (by rfl) T.tuple (by decide +kernel) (pa_cons (pe_lc (own := [("state", 8)]) (g := gName 8) (tt := tYes) rfl scStarted.nd (pi_list (pv 3))
        (blkOk_by (N := nStarted) (sc := defScope sStarted) (by decide +kernel)) (fun _ _ _ _ _ => pg_name (i := 8) scStarted.nd rfl (Or.inl rfl)) (fun _ _ _ _ _ => pts_nil)
        (fun _ _ _ _ _ => by exact pe_callTy (tupOf_at (K := K) rfl) (by rfl) T.tuple (by decide +kernel) (pa_cons (pe_lc (own := [("target", 9)]) (g := gName 9) (tt := tYes) rfl scStarted.nd (piT_at (K := K) rfl (pe_ix (ixT_at (K := K) rfl) (pv 0) (pv 8) (fun _ _ => rfl)))
          (blkOk_by (N := nStarted) (sc := scIn) (by decide +kernel)) (fun _ _ _ _ _ => pg_name (i := 9) scStarted.nd rfl (Or.inl rfl)) (fun _ _ _ _ _ => pts_nil)
          (fun _ _ _ _ _ => by exact pe_dget hu (pv 4) (pv 9) (fun _ _ => rfl))) pa_nil))) pa_nil)))
    (pss_one (ps_ret (pe_tup (pa_cons (pv 6) (pa_cons (pe_callTy call_tuple_of (by rfl) T.tuple (by decide +kernel) (pa_cons (pe_lc (own := [("number", 7), ("state", 8)]) (g := gTup K 2 (gCons (gName 7) (gCons (gName 8) gNil))) rfl scStarted.nd (pi_enum (by rfl) T.enu (pa_cons (pv 3) pa_nil))
        (blkOk_by (N := nStarted) (sc := defScope sStarted) (by decide +kernel)) (fun _ _ _ _ _ => by exact (pg_tup rfl (pgs_cons (pg_name (i := 7) scStarted.nd rfl (Or.inl rfl)) (pgs_cons (pg_name (i := 8) scStarted.nd rfl (Or.inl rfl)) pgs_nil))))
        (fun _ _ _ _ _ => by exact pts_one (pt_val (pe_ix (ixL_at (K := K) rfl) (pv 5) (pv 8) (fun _ _ => rfl)))) (fun _ _ _ _ _ => by exact pv 7)) pa_nil)) pa_nil)))))))), ?_⟩
  have R := reached hin hst
  refine ⟨_, rfl, _, rfl, v, rows, st, rfl, hR, hin, hst, hm, fun l H1 s1 hl g1 => ?_⟩
  generalize reach rows st = o at R g1 q ⊢
  have lo : o.length ≤ rows.length := nodup_lt _ o R.nd R.lt
  have lo2 : o.length < sizeLine := Nat.lt_of_le_of_lt lo (Nat.lt_of_le_of_lt hm (by decide))
  have item : ∀ {i : Nat} {y : V}, (o.map nI)[i]? = some y → ∃ h : i < o.length, y = nI (o.getD i 0) := fun {i y} e => by
    rw [List.getElem?_map] at e
    obtain ⟨t, ht, rfl⟩ := Option.map_eq_some_iff.mp e
    have hi := (List.getElem?_eq_some_iff.mp ht).1
    rw [getD_at hi] at ht
    exact ⟨hi, by rw [Option.some.inj ht]⟩
  refine ⟨_, rfl, l, _, rfl, SqL.of g1, fun D hD => ?_⟩
  refine dc_it walk_enum (fun i H' => H' D = some (.dK ((List.range i).map fun j => (keyAt o j, nI j))) ∧ Same H1 H') ⟨upd_same, same_new hD _⟩ (fun i H' _ ⟨_, s⟩ => s.seq (SqL.of g1)) ?_ ?_
  · rintro i x H2 H3 hi ⟨k1, k2⟩ ⟨T1, x1, y1, rfl, hT, rfl, e1, e2⟩
    obtain rfl : V.int (i : Nat) = x1 := Option.some.inj e1
    obtain ⟨hio, rfl⟩ := item e2
    have hv : valV ((List.range i).map fun j => (keyAt o j, nI j)) (keyAt o i) = none := valV_none _ _ _ _ fun j hj e => by
      have hj' := List.mem_range.mp hj
      have := key_inj R.nd (by omega) hio e
      omega
    refine ⟨T1, _, rfl, SqT.of upd_same, rfl, _, _, rfl, _, _, rfl, rfl, rfl, _, rfl, _, rfl, _, keyAt o i, rfl, (upd_ne (ne_of_none k1 hT)).trans k1, ?_, ?_, fun b u e => ?_⟩
    · rw [List.length_map, List.length_range]; omega
    · rw [upd_same, putK_new _ hv, List.range_succ, List.map_append]
      rfl
    · rw [upd_ne (ne_of_none e hD)]
      exact same_new hT _ b u (k2 b u e)
  · rintro H2 ⟨k1, k2⟩
    rw [List.length_map] at k1
    have s2 := s1.trans k2
    have g1' := k2 _ _ g1
    obtain ⟨va, bs, rfl, hva, hbl, hrows⟩ := id (hR.same s2)
    refine ⟨_, rfl, va, _, rfl, .inr hva, _, rfl, rows.length, e, ends, by rw [hbl]; rfl, hE.same s2, hel, by omega, fun lf H3 s3 hlf g3 => ?_⟩
    have hR3 := (hR.same s2).same s3
    have kD := s3 _ _ k1
    have gl := s3 _ _ g1'
    refine ⟨_, rfl, l, rfl, ⟨_, SqL.of gl⟩, fun D2 hD2 => ?_⟩
    have lr : (renum rows o).length = o.length := List.length_map _
    have getR : ∀ i, i < o.length → (renum rows o).getD i [] = (rowOf rows (o.getD i 0)).map fun t => o.idxOf t := fun i hi => by
      rw [List.getD_eq_getElem?_getD, show (renum rows o)[i]? = some ((rowOf rows (o.getD i 0)).map fun t => o.idxOf t) by unfold renum; rw [List.getElem?_map, getD_at hi]; rfl]
      rfl
    refine lc_it (walk_list (xs := o.map nI)) (fun i H' => ∃ ts : List Addr, H' D2 = some (.lst (ts.map V.ref)) ∧ ts.length = i ∧ (∀ (j : Nat) (t : Addr), ts[j]? = some t → H' t = some (.tup (((renum rows o).getD j []).map nI))) ∧ Same H3 H')
      ⟨[], upd_same, rfl, (fun j t z => nomatch z), same_new hD2 _⟩ (fun i H' _ ⟨_, _, _, _, s⟩ => s.seq (SqL.of gl)) ?_ ?_
    · rintro i x H4 H5 hi ⟨ts, m1, m2, m3, m4⟩ ⟨rfl, hx⟩
      obtain ⟨hio, rfl⟩ := item hx
      have hmem : o.getD i 0 ∈ o := List.mem_of_getElem? (getD_at hio)
      obtain ⟨a', bs', b, ea, ha', hbs', hrow⟩ := hR3.row (R.lt _ hmem)
      cases ea
      have hwid : (rowOf rows (o.getD i 0)).length ≤ 1000 := by
        unfold rowOf
        rw [List.getD_eq_getElem?_getD, List.getElem?_eq_getElem (R.lt _ hmem)]
        exact hw _ (List.getElem_mem _)
      refine ⟨rfl, _, rfl, _, rfl, va, bs', _, .ref b, rfl, rfl, same_T m4 ha', atI_nat hbs', b, rfl, ⟨_, same_T m4 hrow⟩, fun D3 hD3 => ?_⟩
      refine lc_it (walk_tup (xs := (rowOf rows (o.getD i 0)).map nI)) (fun j H' => H' D3 = some (.lst (((rowOf rows (o.getD i 0)).take j).map fun t => nI (o.idxOf t))) ∧ Same H5 H') ⟨upd_same, same_new hD3 _⟩ (fun j H' _ ⟨_, s⟩ => same_T s (same_T m4 hrow)) ?_ ?_
      · rintro j y H6 H7 hj ⟨n1, n2⟩ ⟨rfl, hy⟩
        rw [List.getElem?_map] at hy
        obtain ⟨t, ht, rfl⟩ := Option.map_eq_some_iff.mp hy
        have htm := R.closed _ hmem t (List.mem_of_getElem? ht)
        refine ⟨rfl, _, rfl, _, rfl, D, nI (o.idxOf t), rfl, ?_, _, n1, ?_, ?_, fun b' u e' => ?_⟩
        · rw [← num_at R.nd htm]
          exact DGet.k (k := Sum.inl (t : Int)) (n2 _ _ (m4 _ _ kD))
        · rw [List.length_map]
          exact Nat.lt_of_le_of_lt (List.length_take_le' _ _) (Nat.lt_of_le_of_lt hwid (by decide))
        · rw [upd_same, List.take_add_one, ht, List.map_append]
          rfl
        · rw [upd_ne (ne_of_none e' hD3)]
          exact n2 b' u e'
      · rintro H6 ⟨n1, n2⟩
        rw [List.length_map, List.take_length] at n1
        refine ⟨D3, _, rfl, .inl ⟨SqL.of n1, fun t ht => ?_⟩⟩
        have sT := same_new ht (.tup ((rowOf rows (o.getD i 0)).map fun t => nI (o.idxOf t)))
        have hD26 : H6 D2 = some (.lst (ts.map V.ref)) := n2 _ _ m1
        refine ⟨_, sT _ _ hD26, by rw [List.length_map, m2]; omega, ts ++ [t], by rw [upd_same, List.map_append]; rfl, by rw [List.length_append, m2]; rfl, fun j u hj => ?_, fun b' u e' => ?_⟩
        · rcases Nat.lt_or_ge j ts.length with c | c
          · rw [List.getElem?_append_left c] at hj
            have z := sT _ _ (n2 _ _ (m3 j u hj))
            rw [upd_ne (ne_of z (sT _ _ hD26) (by intro z; cases z))]
            exact z
          · rw [List.getElem?_append_right c] at hj
            have c0 : j - ts.length = 0 := by
              rcases Nat.eq_zero_or_pos (j - ts.length) with w | w
              · exact w
              · rw [List.getElem?_eq_none (by simp; omega)] at hj
                exact nomatch hj
            rw [c0] at hj
            obtain rfl : t = u := Option.some.inj hj
            have ej : j = i := by omega
            subst ej
            rw [upd_ne (ne_of_none hD26 ht).symm, upd_same, getR j hio, List.map_map]
            rfl
        · rw [upd_ne (ne_of_none e' hD2)]
          exact sT _ _ (n2 _ _ (m4 b' u e'))
    · rintro H4 ⟨ts, m1, m2, m3, m4⟩
      rw [List.length_map] at m2
      refine ⟨D2, _, rfl, .inl ⟨SqL.of m1, fun tr htr => ?_⟩⟩
      have s4 := same_new htr (.tup (ts.map V.ref))
      have etr : upd H4 tr (.tup (ts.map V.ref)) tr = some (.tup (ts.map V.ref)) := upd_same
      have m3' := fun j t hj => s4 _ _ (m3 j t hj)
      have s34 := m4.trans s4
      show gName 6 _ _ (upd H4 tr (.tup (ts.map V.ref))) _
      generalize upd H4 tr (.tup (ts.map V.ref)) = H5 at s4 etr m3' s34 ⊢
      refine ⟨_, rfl, _, rfl, l, _, rfl, SqL.of (s34 _ _ gl), fun D4 hD4 => ?_⟩
      refine lc_it walk_enum (fun i H' => H' D4 = some (.lst (((List.range i).filter fun j => decide (o.getD j 0 ∈ ends)).map nI)) ∧ Same H5 H') ⟨upd_same, same_new hD4 _⟩ (fun i H' _ ⟨_, s⟩ => s.seq (SqL.of (s34 _ _ gl))) ?_ ?_
      · rintro i x H6 H7 hi ⟨n1, n2⟩ ⟨T1, x1, y1, rfl, hT, rfl, e1, e2⟩
        obtain rfl : V.int (i : Nat) = x1 := Option.some.inj e1
        obtain ⟨hio, rfl⟩ := item e2
        have hmem : o.getD i 0 ∈ o := List.mem_of_getElem? (getD_at hio)
        have n1' := (upd_ne (o := .tup [V.int (i : Nat), nI (o.getD i 0)]) (ne_of_none n1 hT)).trans n1
        have n2' := n2.trans (same_new hT (.tup [V.int (i : Nat), nI (o.getD i 0)]))
        have hfl : ((flagsOf rows.length ends).map V.bl)[o.getD i 0]? = some (.bl (decide (o.getD i 0 ∈ ends))) := by
          unfold flagsOf
          rw [List.getElem?_map, List.getElem?_map, List.getElem?_range (R.lt _ hmem)]
          rfl
        refine ⟨T1, _, rfl, SqT.of upd_same, rfl, _, _, rfl, _, _, rfl, rfl, rfl, _, rfl, _, rfl, lf, _, _, _, rfl, rfl, SqL.of (n2' _ _ (s34 _ _ g3)), atI_nat hfl, _, rfl, ?_⟩
        generalize upd H6 T1 (.tup [V.int (i : Nat), nI (o.getD i 0)]) = H8 at n1' n2' ⊢
        refine ite2 (fun c => ⟨_, rfl, _, n1', ?_, ?_, fun b u e => ?_⟩) (fun c => ⟨?_, n2'⟩)
        · rw [List.length_map]
          refine Nat.lt_of_le_of_lt (List.length_filter_le _ _) ?_
          rw [List.length_range]
          omega
        · rw [upd_same, List.range_succ, List.filter_append, List.map_append]
          rw [show ([i].filter fun j => decide (o.getD j 0 ∈ ends)) = [i] by rw [List.filter_cons]; rw [if_pos c]; rfl]
          rfl
        · rw [upd_ne (ne_of_none e hD4)]
          exact n2' b u e
        · rw [n1', List.range_succ, List.filter_append]
          rw [show ([i].filter fun j => decide (o.getD j 0 ∈ ends)) = [] by rw [List.filter_cons]; rw [if_neg c]; rfl]
          rw [List.append_nil]
      · rintro H6 ⟨n1, n2⟩
        rw [List.length_map] at n1
        refine ⟨D4, _, rfl, .inl ⟨SqL.of n1, fun te hte => ⟨(by show 2 ≤ sizeLine; decide), fun t ht => ?_⟩⟩⟩
        have s5 := n2.trans (same_new hte (.tup ((endsAt o ends).map nI)))
        have s6 := s5.trans (same_new ht (.tup [.ref tr, .ref te]))
        refine q t (.ref tr) (.ref te) _ ((s2.trans s3).trans (s34.trans s6)) (((s2.trans s3).trans (s34.trans s5)).free ht) upd_same ⟨tr, ts.map V.ref, rfl, .inl (.inl (s6 _ _ etr)), by rw [List.length_map, m2, lr], fun j b r h1 h2 => ?_⟩ ⟨te, rfl, .inl (.inl ?_)⟩
        · rw [List.getElem?_map] at h1
          obtain ⟨u, hu', rfl⟩ := Option.map_eq_some_iff.mp h1
          refine ⟨u, rfl, .inl (.inl ?_)⟩
          have z := s6 _ _ (m3' j u hu')
          rw [List.getD_eq_getElem?_getD, h2] at z
          exact z
        · exact same_new ht _ _ _ upd_same
end
end Vf

set_option Elab.async false
set_option linter.all false
set_option maxRecDepth 100000
set_option maxHeartbeats 4000000
namespace PySem
open AutoSeq1 (wpAny_loadPart')
theorem meets_enumerate_newT (l : Addr) (items : Array Value) (n : Nat) (dct : Option Addr) (sl : Array (Option Value)) :
    Meets (Builtin.«enumerate.__new__» ⟨[.type "enumerate", .ref l], []⟩) (fun _ R s => s.heap.get? l = some { cls := .type "tuple", dict := dct, data := .seq items n, slots := sl } ∧
      R (.ok (.ret (.ref (s.heap.push { cls := .type "tuple_iterator", data := .fields #[.ref l, .int 0 0] }).objs.size)))
        { s with heap := (s.heap.push { cls := .type "tuple_iterator", data := .fields #[.ref l, .int 0 0] }).push { cls := .type "enumerate", data := .fields #[.none, .bool false, .ref s.heap.objs.size, rawInt 0, .none, .none] } }) :=
  .of_wp fun prog w A R s h => by
    obtain ⟨hp, g, d, tk, os⟩ := s
    obtain ⟨hl, h⟩ := h
    have hsub := sub_enumerate
    have hL : Heap.IsTuple (Shared.heap ⟨hp, g, d, tk, os⟩) l items := ⟨_, hl, rfl, n, rfl⟩
    wp_walk using wpAny_loadPart' hl
    refine wpAny_stack_any fun st => wpAny_pure ?_
    split
    · rename_i c _ _ _ _ _
      cases (c == Value.type "enumerate") <;> (wp_walk using wpAny_loadPart' hl, wpAny_pyIter_tuple hL; exact ⟨_, rfl, h⟩)
    · wp_walk using wpAny_loadPart' hl, wpAny_pyIter_tuple hL
      exact ⟨_, rfl, h⟩
section
variable {prog : Program} {w : World} {A : Around} {E : Value → Shared → Prop} {s : Shared}
theorem call_enumerate_tup {l : Addr} {items : Array Value} {Q : Value → Shared → Prop} (hL : s.heap.IsTuple l items)
    (h : ∀ h', IsEnum h' (s.heap.objs.size + 1) s.heap.objs.size 0 .none → h'.IsTupleIter s.heap.objs.size l 0 → (∀ b o, s.heap.get? b = some o → h'.get? b = some o) → Q (.ref (s.heap.objs.size + 1)) { s with heap := h' }) :
    wpAny (model prog w) A (call (.type "enumerate") [.ref l]) Q E s := by
  obtain ⟨⟨c, dct, dt, sl⟩, hl, hc, n, hd⟩ := hL
  obtain rfl : c = .type "tuple" := hc
  obtain rfl : dt = .seq items n := hd
  refine callType_new F.called_enumerate (by decide) (F.typeCall_enumerate_1 _) (F.newCall_enumerate_1 _) (fun obj => F.args_object_init_2 obj _) F.entry_enumerate_new (meets_enumerate_newT l items n dct sl) ⟨hl, ?_⟩
  have hz : (s.heap.push { cls := .type "tuple_iterator", data := .fields #[.ref l, .int 0 0] }).objs.size = s.heap.objs.size + 1 := Heap.size_push ..
  show _ ∧ _
  rw [hz]
  have he := Heap.get?_push_size (s.heap.push { cls := .type "tuple_iterator", data := .fields #[.ref l, .int 0 0] }) (o := { cls := .type "enumerate", data := .fields #[.none, .bool false, .ref s.heap.objs.size, rawInt 0, .none, .none] }) rfl
  rw [hz] at he
  exact ⟨⟨_, he, rfl⟩, h _ he ⟨_, Heap.get?_push_of_some _ (Heap.get?_push_size _ rfl), rfl, rfl⟩ fun b o x => Heap.get?_push_of_some _ (Heap.get?_push_of_some _ x)⟩
end
end PySem
namespace Vs
open PySem PySem.Spec PyProof.Rows L2
/-! ### enumerate of a tuple -/
def ItT (K : PySem.W.Frag) (a : Addr) : It :=
  ⟨fun i H => ∃ (xs : List V) (x : V), SqT K H a xs ∧ xs[i]? = some x, fun i H v H' => ∃ T x, v = .ref T ∧ H T = none ∧ H' = upd H T (.tup [.int (i : Nat), x]) ∧ ∀ xs, SqT K H a xs → xs[i]? = some x, fun i H => ∃ xs : List V, SqT K H a xs ∧ xs.length = i⟩
theorem turn_enumT {P : Program} {w : World} {K : PySem.W.Frag} {elts : List Expr} {kk : Nat} {tpos : Pos} (a e it : Addr) :
    Turn P w K (.Tuple elts kk tpos) (ItT K a) [e, it] e (fun i h => (∃ old, IsEnum h e it ((i : Nat) : Int) old) ∧ h.IsTupleIter it a i ∧ e ≠ it) where
  mem := by simp
  obj := fun i h st b hb => by
    obtain ⟨⟨old, he⟩, ⟨o, ho, hc, hd⟩, _⟩ := st
    have e' : b = e ∨ b = it := by simpa using hb
    rcases e' with rfl | rfl
    · exact ⟨_, he, fun v q => nomatch q⟩
    · exact ⟨o, ho, fun v q => by rw [hd] at q; cases q⟩
  keep := fun i h h' st k => let ⟨⟨old, he⟩, ⟨o, ho, r⟩, hne⟩ := st; ⟨⟨old, k e (by simp) _ he⟩, ⟨o, k it (by simp) o ho, r⟩, hne⟩
  item := by
    intro X hP hw hK hc i pins s σ H E I hf st hg
    subst hP hw hK
    obtain ⟨⟨old, he⟩, hit, hne⟩ := st
    obtain ⟨xs, x, hq, hx⟩ := hg
    obtain ⟨its, rv, p, hz⟩ := I.tuple hq
    have hi : i < its.toArray.size := by
      have z := (List.getElem?_eq_some_iff.mp hx).1
      rw [rv.length] at z
      simpa using z
    obtain ⟨u, hu, ru⟩ := rv.get hx
    have hel : e < s.heap.objs.size := Heap.lt_size he
    have hil : it < s.heap.objs.size := by obtain ⟨_, q, _⟩ := hit; exact Heap.lt_size q
    have ta : ∀ c, c = e ∨ c = it → a ≠ c := fun c hc z => by
      obtain ⟨o1, q1, c1, n1, d1⟩ := p
      rcases hc with rfl | rfl
      · rw [z, show s.heap.get? _ = some _ from he] at q1
        cases Option.some.inj q1
        exact absurd (Value.type.inj c1) (by decide)
      · obtain ⟨o2, q2, c2, _⟩ := hit
        rw [z, q2] at q1
        cases Option.some.inj q1
        rw [c2] at c1
        exact absurd (Value.type.inj c1) (by decide)
    have D := Draws.tuple (prog := X.prog) (w := X.w) (A := X.A.in1) (by exact I.ok.hd hc) it a (ta it (.inr rfl)) its.toArray
    refine wpAny_pyNext_enum_itemC D he ⟨hit, p⟩ hi hne (by simp [hne, (ta e (.inl rfl)).symm]) fun y h' tk hy ho st' hT hsz hk => ?_
    obtain rfl : u = y := by
      have z : its.toArray[i]? = some u := by simpa using hu
      exact Option.some.inj (z.symm.trans hy)
    refine ⟨_, rfl, wpAny_letOwnedTupleGo_enum (s := { s with heap := h', toks := tk + 1 }) ho fun h'' he' sb => ?_⟩
    have hT2 : h''.get? s.heap.objs.size = some { cls := .type "tuple", data := .seq #[.int i tk, u] } := (sb.2 _ (Nat.ne_of_gt hel)).trans hT
    have new : ObjOk X.prog X.w (upd H s.heap.objs.size (.tup [.int (i : Nat), x])) h'' s.heap.objs.size (.tup [.int (i : Nat), x]) :=
      ⟨by show 2 ≤ sizeLine; decide, [.int i tk, u], .cons ⟨_, rfl⟩ (.cons ru .nil), ⟨_, hT2, rfl, _, rfl⟩⟩
    have I1 := I.turnedNew (t' := tk + 1) (ch := [e, it]) (fun b ob hb q => (sb.2 b (fun z => hb (by simp [z]))).trans (hk b ob (fun z => hb (by simp [z])) (fun z => hb (by simp [z])) q)) hf (Nat.le_refl _) new
    refine ⟨.ref s.heap.objs.size, _, I1, rfl, ⟨_, x, rfl, I.hok.fresh (Nat.le_refl _), rfl, fun ys hy => by rw [I.tuple_inj hy hq]; exact hx⟩, ⟨⟨u, ?_⟩, ?_, hne⟩, fun b hb => ?_⟩
    · rw [show ((i + 1 : Nat) : Int) = (i : Int) + 1 by omega]
      exact he'
    · obtain ⟨o, q, r⟩ := st'.1
      exact ⟨o, (sb.2 it (Ne.symm hne)).trans q, r⟩
    · have hb' : b < s.heap.objs.size := by
        have e' : b = e ∨ b = it := by simpa using hb
        rcases e' with rfl | rfl
        · exact hel
        · exact hil
      rw [upd_ne (Nat.ne_of_lt hb')]
      exact (hf b hb).1
  done := by
    intro X hP hw hK hc i pins s σ H E I hf st hg
    subst hP hw hK
    obtain ⟨⟨old, he⟩, hit, hne⟩ := st
    obtain ⟨xs, hq, hx⟩ := hg
    obtain ⟨its, rv, p, hz⟩ := I.tuple hq
    obtain ⟨f0, f1, f2, f3, f4, f5⟩ := hf it (by simp)
    have hi : its.toArray.size = i := by rw [← hx, rv.length]; simp
    have ta : a ≠ it := fun z => by
      obtain ⟨o1, q1, c1, n1, d1⟩ := p
      obtain ⟨o2, q2, c2, _⟩ := hit
      rw [z, q2] at q1
      cases Option.some.inj q1
      rw [c2] at c1
      exact absurd (Value.type.inj c1) (by decide)
    have D := Draws.tuple (prog := X.prog) (w := X.w) (A := X.A.in1) (by exact I.ok.hd hc) it a ta its.toArray
    subst hi
    exact wpAny_pyNext_enum_endD D he ⟨hit, p⟩ fun h' eb => ⟨rfl, I.turned (t' := s.toks) (fun b o hb q => eb b o hb q) f0 f1 f3 f4 f5⟩
  self := fun A i s Q E st h => let ⟨⟨_, he⟩, _⟩ := st; wpAny_pyIter_enum he h
def iEnumT (K : PySem.W.Frag) (ta : TA) : TI := fun σ H R => ta σ H fun vs H1 => ∃ a xs, vs = [.ref a] ∧ SqT K H1 a xs ∧ R (ItT K a) H1
theorem pi_enumT {X : Cx} {e : Expr} {ta : TA} {p pos tpos : Pos} {elts : List Expr} {kk : Nat} (hg : Gl X "enumerate") (hm : X.mg "enumerate" = none) (ha : PA X [e] ta) (hs : starEach [e] X.env = [(false, eval e X.env)] := by rfl) :
    PI X (.Tuple elts kk tpos) (.Call (.Name "enumerate" p) [e] [] pos) (iEnumT X.K ta) := by
  refine ⟨fun pins s σ H R I h => ?_⟩
  refine Call_ (ld_blt I hg hm boot_enumerate (PyProof.Rows.callWith_type1 (thn (ha.run pos pins s σ H _ I h) fun us s1 q1 => ?_) hs rfl))
  obtain ⟨vs, H1, I1, r1, a, xs, rfl, hq, q⟩ := q1
  obtain ⟨u, rfl, rx⟩ := vals1 r1
  cases rx
  obtain ⟨its, rv, p', hz⟩ := I1.tuple hq
  refine call_enumerate_tup p' fun h' he hit hk => wpAny_pyIter_enum he ?_
  have I2 : Inv X pins σ H1 { s1 with heap := h' } := I1.kept (t' := s1.toks) hk
  refine ⟨s1.heap.objs.size + 1, [s1.heap.objs.size + 1, s1.heap.objs.size], _, _, H1, rfl, I2, turn_enumT a (s1.heap.objs.size + 1) s1.heap.objs.size, ⟨⟨.none, he⟩, hit, Nat.succ_ne_self _⟩, fun b hb => ?_, q⟩
  have hle : s1.heap.objs.size ≤ b := by
    have e' : b = s1.heap.objs.size + 1 ∨ b = s1.heap.objs.size := by simpa using hb
    rcases e' with z | z <;> rw [z]
    · exact Nat.le_add_right _ _
    · exact Nat.le_refl _
  exact I1.fpOk hle (I1.hok.fresh hle)
theorem walk_enumT {K : PySem.W.Frag} {a : Addr} {xs : List V} : Walk (ItT K a) xs.length (fun H => SqT K H a xs) (YPair (fun i => some (.int (i : Nat))) (fun i => xs[i]?)) := by
  refine ⟨fun i _ hi q => ⟨xs, xs[i], q, by simp [hi]⟩, fun _ q => ⟨xs, q, rfl⟩, fun i H v H' _ q y => ?_⟩
  obtain ⟨T, x, h1, h2, h3, h4⟩ := y
  exact ⟨T, .int (i : Nat), x, h1, h2, h3, rfl, h4 xs q⟩
end Vs

set_option Elab.async false
set_option linter.all false
set_option maxRecDepth 100000
set_option maxHeartbeats 4000000
namespace Vf
open PySem PySem.Spec PyProof.Rows L2 L2.Vx Vs
/-! ### sources_of -/
abbrev sSrc : Stmt := top 14
/-- where a letter leads -/
def nextOf (rows : List (List Nat)) (a s : Nat) : Nat := (rowOf rows s).getD a 0
def srcOf (rows : List (List Nat)) (a t : Nat) : List Nat := (List.range rows.length).filter fun s => nextOf rows a s == t
/-- a list of n lists: ts their places -/
structure LsAt (H : Hp) (l : Addr) (ts : List Addr) (n : Nat) (f : Nat → List Nat) : Prop where
  top : H l = some (.lst (ts.map V.ref))
  len : ts.length = n
  each : ∀ (j : Nat) (t : Addr), ts[j]? = some t → H t = some (.lst ((f j).map nI))
theorem LsAt.same {H H' : Hp} {l : Addr} {ts : List Addr} {n : Nat} {f : Nat → List Nat} (h : LsAt H l ts n f) (s : Same H H') : LsAt H' l ts n f := ⟨s _ _ h.top, h.len, fun j t e => s _ _ (h.each j t e)⟩
def spSrc (K : PySem.W.Frag) : Sp := fun vs H Q _ => ∃ (v : V) (rows : List (List Nat)) (a : Nat), vs = [v, nI a] ∧ RowsAt K H v rows ∧ RowsIn rows rows.length ∧ (∀ r ∈ rows, a < r.length) ∧ rows.length ≤ 1000 ∧
  ∀ l ts H', Same H H' → H l = none → (∀ t ∈ ts, H t = none) → LsAt H' l ts rows.length (srcOf rows a) → Q (.ref l) H'
theorem rowOf_at {rows : List (List Nat)} {s : Nat} (h : s < rows.length) : rows[s]? = some (rowOf rows s) := by
  unfold rowOf
  rw [List.getD_eq_getElem?_getD, List.getElem?_eq_getElem h]
  rfl
theorem next_at {rows : List (List Nat)} {a s : Nat} (h : s < rows.length) (hw : ∀ r ∈ rows, a < r.length) : (rowOf rows s)[a]? = some (nextOf rows a s) := getD_at (hw _ (List.mem_of_getElem? (rowOf_at h)))
section
variable {P : Program} {w : World} {K : PySem.W.Frag} {mg : Str → Option Value} {base : Heap}
theorem scSrc : FnScope ["rows", "at", "row", "found", "state"] ["rows", "at"] (defScope sSrc) := ⟨rfl, rfl, rfl, by decide +kernel, rfl, by decide +kernel, by decide +kernel⟩
theorem ok_src {f : Addr} {fd : FuncData} (F : Fun K "sources_of" "sources_of" sSrc f fd) (T : TxtM mg) : FnOk P w K mg base CX0 1 f fd ["rows", "at"] (spSrc K) := by
  refine F.ok scSrc (fun vs H Q E h => ?_) (fun cdv A outer s H vs Q E hr h => ?_)
  · obtain ⟨v, rows, a, rfl, _⟩ := h
    rfl
  obtain ⟨v, rows, a, rfl, hR, hin, hw, hm, q⟩ := h
  refine ⟨_, pss_cons (ps_setLc (i := 3) (own := [("row", 2)]) (g := gName 2) (tt := tYes) rfl scSrc.nd rfl rfl (sw_true rfl rfl rfl (by decide +kernel)) (pi_tup (pv 0))
        (blkOk_by (N := ["rows", "at", "row", "found", "state"]) (sc := defScope sSrc) (by decide +kernel)) (fun _ _ _ _ _ => pg_name (i := 2) scSrc.nd rfl (Or.inl rfl)) (fun _ _ _ _ _ => pts_nil) (fun _ _ _ _ _ => by exact pe_lst pa_nil))
    (pss_cons (ps_for PassesOwn.never rfl (pi_enumT (by rfl) T.enu (pa_cons (pv 0) pa_nil)) (pg_tup rfl (pgs_cons (pg_name (i := 4) scSrc.nd rfl (Or.inl rfl)) (pgs_cons (pg_name (i := 2) scSrc.nd rfl (Or.inl rfl)) pgs_nil)))
      (pss_one (ps_expr (pe_bm PySem.F.plainAttrs_list PySem.F.slot_list_append PySem.F.type_list_append mt_append (pe_ix ix_list (pv 3) (pe_ix ix_tup (pv 2) (pv 1) (fun _ _ => rfl)) (fun _ _ => rfl)) (pa_cons (pv 4) pa_nil)))))
    (pss_one (ps_ret (pv 3)))), ?_⟩
  obtain ⟨va, bs, rfl, hva, hbl, hrows⟩ := id hR
  refine ⟨_, rfl, va, rfl, ⟨_, hva⟩, fun D hD => ?_⟩
  refine lc_it (walk_tup (xs := bs)) (fun i H' => ∃ ts : List Addr, H' D = some (.lst (ts.map V.ref)) ∧ ts.length = i ∧ ts.Nodup ∧ (∀ t ∈ ts, t ≠ D ∧ H t = none ∧ H' t = some (.lst [])) ∧ Same H H')
    ⟨[], upd_same, rfl, List.nodup_nil, (fun _ z => nomatch z), same_new hD _⟩ (fun i H' _ ⟨_, _, _, _, _, s⟩ => same_T s hva) ?_ ?_
  · rintro i x H1 H2 hi ⟨ts, k1, k2, k3, k4, k5⟩ ⟨rfl, hx⟩
    refine ⟨rfl, Nat.zero_le _, fun t ht => ?_⟩
    have s1 := same_new ht (.lst [])
    have tD : t ≠ D := (ne_of_none k1 ht).symm
    refine ⟨_, s1 _ _ k1, by rw [List.length_map, k2]; exact Nat.lt_of_lt_of_le hi (by rw [hbl]; exact Nat.le_trans hm (by decide)), ts ++ [t], by rw [upd_same, List.map_append]; rfl, by rw [List.length_append, k2]; rfl, ?_, fun u hu => ?_, fun b o e => ?_⟩
    · refine List.nodup_append.mpr ⟨k3, by simp, fun c hc d hd e => ?_⟩
      rw [List.mem_singleton.mp hd] at e
      have z := (k4 c hc).2.2
      rw [e, ht] at z
      exact nomatch z
    · rcases List.mem_append.mp hu with hu | hu
      · exact ⟨(k4 u hu).1, (k4 u hu).2.1, by rw [upd_ne (k4 u hu).1]; exact s1 _ _ (k4 u hu).2.2⟩
      · rw [List.mem_singleton.mp hu]
        exact ⟨tD, k5.free ht, by rw [upd_ne tD, upd_same]⟩
    · rw [upd_ne (ne_of_none e hD)]
      exact s1 _ _ (k5 b o e)
  · rintro H1 ⟨ts, k1, k2, k3, k4, k5⟩
    refine ⟨_, rfl, va, bs, rfl, same_T k5 hva, ?_⟩
    refine for_it (walk_enumT (xs := bs)) (fun i σ H' => ∃ v2 v4 : Option V, σ = [some (.ref va), some (nI a), v2, some (.ref D), v4] ∧ H' D = some (.lst (ts.map V.ref)) ∧
      (∀ (j : Nat) (t : Addr), ts[j]? = some t → H' t = some (.lst (((List.range i).filter fun s => nextOf rows a s == j).map nI))) ∧ Same H H')
      ⟨none, none, rfl, k1, fun j t e => (k4 t (List.mem_of_getElem? e)).2.2, k5⟩ (fun i σ H' _ ⟨_, _, _, _, _, s⟩ => same_T s hva) ?_ ?_
    · rintro i x σ H2 H3 hi ⟨v2, v4, rfl, m1, m2, m3⟩ ⟨T1, x1, y1, rfl, hT, rfl, e1, e2⟩
      obtain rfl : V.int (i : Nat) = x1 := Option.some.inj e1
      have hil : i < rows.length := by rw [← hbl]; exact hi
      obtain ⟨b, rfl, hb⟩ := hrows i y1 _ e2 (rowOf_at hil)
      have sT := same_new hT (.tup [V.int (i : Nat), .ref b])
      have hn := next_at hil hw
      have hnl : nextOf rows a i < ts.length := by
        rw [k2, hbl]
        exact rowOf_mem hin _ (List.mem_of_getElem? hn)
      obtain ⟨t, ht⟩ : ∃ t, ts[nextOf rows a i]? = some t := ⟨_, List.getElem?_eq_getElem hnl⟩
      have hmt := m2 _ _ ht
      have hH : t ≠ D := (k4 t (List.mem_of_getElem? ht)).1
      refine ⟨T1, _, rfl, SqT.of upd_same, rfl, _, _, rfl, _, _, rfl, rfl, ?_⟩
      refine ⟨_, rfl, _, rfl, _, rfl, b, _, _, nI (nextOf rows a i), rfl, rfl, same_T (m3.trans sT) hb, atI_nat (by rw [List.getElem?_map, hn]; rfl), D, _, _, .ref t, rfl, rfl, SqL.of (sT _ _ m1), atI_nat (by rw [List.getElem?_map, ht]; rfl), .inl ⟨rfl, _, SqL.of (sT _ _ hmt)⟩, _, rfl, t, _, _, rfl, rfl, sT _ _ hmt, ?_, _, _, rfl, ?_, fun j u hj => ?_, fun c o e => ?_⟩
      · rw [List.length_map]
        refine Nat.lt_of_le_of_lt (List.length_filter_le _ _) ?_
        rw [List.length_range]
        exact Nat.lt_of_lt_of_le hil (Nat.le_trans hm (by decide))
      · rw [upd_ne hH.symm]
        exact sT _ _ m1
      · by_cases c : j = nextOf rows a i
        · subst c
          rw [ht] at hj
          obtain rfl : t = u := Option.some.inj hj
          rw [upd_same, List.range_succ, List.filter_append, List.map_append]
          simp
        · have tu : u ≠ t := fun z => by
            subst z
            have h1 := (List.getElem?_eq_some_iff.mp hj)
            have h2 := (List.getElem?_eq_some_iff.mp ht)
            obtain ⟨l1, q1⟩ := h1
            obtain ⟨l2, q2⟩ := h2
            rcases Nat.lt_trichotomy j (nextOf rows a i) with z | z | z
            · exact List.pairwise_iff_getElem.mp k3 _ _ l1 l2 z (q1.trans q2.symm)
            · exact c z
            · exact List.pairwise_iff_getElem.mp k3 _ _ l2 l1 z (q2.trans q1.symm)
          rw [upd_ne tu, List.range_succ, List.filter_append]
          rw [show ([i].filter fun s => nextOf rows a s == j) = [] by rw [List.filter_cons, if_neg (by simp; exact fun z => c z.symm)]; rfl]
          rw [List.append_nil]
          exact sT _ _ (m2 j u hj)
      · have hct : c ≠ t := fun z => by
          have y := (k4 t (List.mem_of_getElem? ht)).2.1
          rw [← z, e] at y
          exact nomatch y
        rw [upd_ne hct]
        exact sT _ _ (m3 c o e)
    · rintro σ H2 ⟨v2, v4, rfl, m1, m2, m3⟩
      refine ⟨_, rfl, q D ts H2 m3 hD (fun t ht => (k4 t ht).2.1) ⟨m1, by rw [k2, hbl], fun j t hj => ?_⟩⟩
      rw [m2 j t hj, hbl]
      rfl
end
end Vf

set_option Elab.async false
set_option linter.all false
set_option maxRecDepth 100000
set_option maxHeartbeats 4000000
namespace Vf
open PySem PySem.Spec PyProof.Rows L2 L2.Vx Vs
/-! ### dicts from numbers to lists -/
abbrev refK (es : List (Nat × Addr)) : List (Key × V) := es.map fun p => ((Sum.inl ((p.1 : Nat) : Int) : Key), V.ref p.2)
theorem refK_none {es : List (Nat × Addr)} {c : Nat} (h : c ∉ es.map (·.1)) : valV (refK es) (Sum.inl (c : Int)) = none :=
  valV_none (fun p : Nat × Addr => (Sum.inl ((p.1 : Nat) : Int) : Key)) (fun p => V.ref p.2) _ es fun p hp e => h (List.mem_map.mpr ⟨p, hp, by have z := Sum.inl.inj e; omega⟩)
theorem pair_inj {es : List (Nat × Addr)} (nd : (es.map (·.1)).Nodup) {p q : Nat × Addr} (hp : p ∈ es) (hq : q ∈ es) (e : p.1 = q.1) : p = q := by
  obtain ⟨i, hi, rfl⟩ := List.getElem_of_mem hp
  obtain ⟨j, hj, rfl⟩ := List.getElem_of_mem hq
  have f := List.pairwise_iff_getElem.mp nd
  rcases Nat.lt_trichotomy i j with c | c | c
  · exact absurd (by rw [List.getElem_map, List.getElem_map]; exact e) (f i j (by simpa using hi) (by simpa using hj) c)
  · subst c; rfl
  · exact absurd (by rw [List.getElem_map, List.getElem_map]; exact e.symm) (f j i (by simpa using hj) (by simpa using hi) c)
theorem pair_inj2 {es : List (Nat × Addr)} (nd : (es.map (·.2)).Nodup) {p q : Nat × Addr} (hp : p ∈ es) (hq : q ∈ es) (e : p.2 = q.2) : p = q := by
  obtain ⟨i, hi, rfl⟩ := List.getElem_of_mem hp
  obtain ⟨j, hj, rfl⟩ := List.getElem_of_mem hq
  have f := List.pairwise_iff_getElem.mp nd
  rcases Nat.lt_trichotomy i j with c | c | c
  · exact absurd (by rw [List.getElem_map, List.getElem_map]; exact e) (f i j (by simpa using hi) (by simpa using hj) c)
  · subst c; rfl
  · exact absurd (by rw [List.getElem_map, List.getElem_map]; exact e.symm) (f j i (by simpa using hj) (by simpa using hi) c)
theorem refK_some {es : List (Nat × Addr)} (nd : (es.map (·.1)).Nodup) {c : Nat} {t : Addr} (h : (c, t) ∈ es) : valV (refK es) (Sum.inl (c : Int)) = some (.ref t) :=
  valV_some (fun p : Nat × Addr => (Sum.inl ((p.1 : Nat) : Int) : Key)) (fun p => V.ref p.2) _ (c, t) es h rfl fun p hp e => pair_inj nd hp h (by have z := Sum.inl.inj e; omega)
/-! ### hits_of -/
structure Hits (H : Hp) (d : Addr) (es : List (Nat × Addr)) (cl : Nat → Nat) (xs : List Nat) : Prop where
  top : H d = some (.dK (refK es))
  keys : (es.map (·.1)).Nodup
  places : (es.map (·.2)).Nodup
  each : ∀ p ∈ es, H p.2 = some (.lst ((xs.filter fun x => cl x == p.1).map nI))
  all : ∀ x ∈ xs, ∃ t, (cl x, t) ∈ es
  some : ∀ p ∈ es, ∃ x ∈ xs, cl x = p.1
theorem Hits.same {H H' : Hp} {d : Addr} {es : List (Nat × Addr)} {cl : Nat → Nat} {xs : List Nat} (h : Hits H d es cl xs) (s : Same H H') : Hits H' d es cl xs := ⟨s _ _ h.top, h.keys, h.places, fun p hp => s _ _ (h.each p hp), h.all, h.some⟩
theorem Hits.old {H : Hp} {d : Addr} {es : List (Nat × Addr)} {cl : Nat → Nat} {xs : List Nat} (h : Hits H d es cl xs) {x : Nat} {t : Addr} (ht : (cl x, t) ∈ es) :
    Hits (upd H t (.lst ((xs.filter fun y => cl y == cl x).map nI ++ [nI x]))) d es cl (xs ++ [x]) := by
  refine ⟨?_, h.keys, h.places, fun p hp => ?_, fun y hy => ?_, fun p hp => ?_⟩
  · rw [upd_ne (ne_of h.top (h.each _ ht) (by intro z; cases z))]
    exact h.top
  · by_cases c : p.2 = t
    · have e := pair_inj2 h.places hp ht c
      subst e
      rw [upd_same, List.filter_append, List.map_append]
      simp
    · have c1 : ¬ cl x = p.1 := fun z => c (by have e := pair_inj h.keys hp ht z.symm; rw [e])
      rw [upd_ne c, h.each p hp, List.filter_append]
      rw [show ([x].filter fun y => cl y == p.1) = [] by rw [List.filter_cons, if_neg (by simpa using c1)]; rfl, List.append_nil]
  · rcases List.mem_append.mp hy with hy | hy
    · exact h.all y hy
    · rw [List.mem_singleton.mp hy]; exact ⟨t, ht⟩
  · obtain ⟨y, hy, e⟩ := h.some p hp
    exact ⟨y, List.mem_append_left _ hy, e⟩
theorem Hits.new {H : Hp} {d z : Addr} {es : List (Nat × Addr)} {cl : Nat → Nat} {xs : List Nat} (h : Hits H d es cl xs) {x : Nat} (hn : cl x ∉ es.map (·.1)) (hz : z ≠ d) (hp : ∀ p ∈ es, p.2 ≠ z) :
    Hits (upd (upd H d (.dK (refK es ++ [((Sum.inl ((cl x : Nat) : Int) : Key), V.ref z)]))) z (.lst [nI x])) d (es ++ [(cl x, z)]) cl (xs ++ [x]) := by
  have no : ∀ y ∈ xs, cl y ≠ cl x := fun y hy e => by
    obtain ⟨t, ht⟩ := h.all y hy
    exact hn (List.mem_map.mpr ⟨_, ht, e⟩)
  refine ⟨?_, ?_, ?_, fun p q => ?_, fun y hy => ?_, fun p q => ?_⟩
  · rw [upd_ne hz.symm, upd_same]
    unfold refK
    rw [List.map_append]
    rfl
  · rw [List.map_append]
    exact List.nodup_append.mpr ⟨h.keys, by simp, fun a ha b hb e => hn (by rw [List.mem_singleton.mp hb] at e; rw [show a = cl x from e] at ha; exact ha)⟩
  · rw [List.map_append]
    refine List.nodup_append.mpr ⟨h.places, by simp, fun a ha b hb e => ?_⟩
    rw [List.mem_singleton.mp hb] at e
    obtain ⟨p, q, rfl⟩ := List.mem_map.mp ha
    exact hp p q e
  · rcases List.mem_append.mp q with q | q
    · have c1 : ¬ cl x = p.1 := fun z => hn (List.mem_map.mpr ⟨p, q, z.symm⟩)
      rw [upd_ne (hp p q), upd_ne (ne_of (h.each p q) h.top (by intro z; cases z)), h.each p q, List.filter_append]
      rw [show ([x].filter fun y => cl y == p.1) = [] by rw [List.filter_cons, if_neg (by simpa using c1)]; rfl, List.append_nil]
    · rw [List.mem_singleton.mp q]
      show upd _ z _ z = _
      rw [upd_same, List.filter_append]
      rw [show (xs.filter fun y => cl y == cl x) = [] from List.filter_eq_nil_iff.mpr fun y hy => by simpa using no y hy]
      simp
  · rcases List.mem_append.mp hy with hy | hy
    · obtain ⟨t, ht⟩ := h.all y hy
      exact ⟨t, List.mem_append_left _ ht⟩
    · rw [List.mem_singleton.mp hy]
      exact ⟨z, List.mem_append_right _ (List.mem_singleton.mpr rfl)⟩
  · rcases List.mem_append.mp q with q | q
    · obtain ⟨y, hy, e⟩ := h.some p q
      exact ⟨y, List.mem_append_left _ hy, e⟩
    · rw [List.mem_singleton.mp q]
      exact ⟨x, List.mem_append_right _ (List.mem_singleton.mpr rfl), rfl⟩
theorem Hits.few {H : Hp} {d : Addr} {es : List (Nat × Addr)} {cl : Nat → Nat} {xs : List Nat} (h : Hits H d es cl xs) : es.length ≤ xs.length := by
  have q : ∀ (l r : List Nat), l.Nodup → (∀ k ∈ l, k ∈ r) → l.length ≤ r.length := by
    intro l
    induction l with
    | nil => intro r _ _; exact Nat.zero_le _
    | cons x l ih =>
      intro r d s
      obtain ⟨d1, d2⟩ := List.nodup_cons.mp d
      have p := (List.perm_cons_erase (s x (List.mem_cons_self ..))).length_eq
      have q := ih (r.erase x) d2 fun k hk => (List.mem_erase_of_ne fun z : k = x => d1 (by rw [← z]; exact hk)).mpr (s k (List.mem_cons_of_mem _ hk))
      simp only [List.length_cons] at p ⊢
      omega
  have z := q (es.map (·.1)) (xs.map cl) h.keys fun k hk => by
    obtain ⟨p, hp, rfl⟩ := List.mem_map.mp hk
    obtain ⟨x, hx, e⟩ := h.some p hp
    exact List.mem_map.mpr ⟨x, hx, e⟩
  rw [List.length_map, List.length_map] at z
  exact z
abbrev sHits : Stmt := top 15
def clsOf (cs : List Nat) (x : Nat) : Nat := cs.getD x 0
def spHits : Sp := fun vs H Q _ => ∃ (ls li lc : Addr) (ts : List Addr) (n : Nat) (f : Nat → List Nat) (inside cs : List Nat), vs = [.ref ls, .ref li, .ref lc] ∧ LsAt H ls ts n f ∧ H li = some (.lst (inside.map nI)) ∧ H lc = some (.lst (cs.map nI)) ∧ cs.length = n ∧
  (∀ t ∈ inside, t < n) ∧ (∀ t ∈ inside, ∀ x ∈ f t, x < n) ∧ (inside.flatMap f).length ≤ 10000 ∧
  ∀ d es H', Same H H' → H d = none → (∀ p ∈ es, H p.2 = none) → Hits H' d es (clsOf cs) (inside.flatMap f) → Q (.ref d) H'
section
variable {P : Program} {w : World} {K : PySem.W.Frag} {mg : Str → Option Value} {base : Heap}
theorem scHits : FnScope ["sources", "inside", "classes", "hits", "target", "state"] ["sources", "inside", "classes"] (defScope sHits) := ⟨rfl, rfl, rfl, by decide +kernel, rfl, by decide +kernel, by decide +kernel⟩
theorem ok_hits {f : Addr} {fd : FuncData} (F : Fun K "hits_of" "hits_of" sHits f fd) : FnOk P w K mg base CX0 1 f fd ["sources", "inside", "classes"] spHits := by
  refine F.ok scHits (fun vs H Q E h => ?_) (fun cdv A outer s H vs Q E hr h => ?_)
  · obtain ⟨ls, li, lc, ts, n, f, inside, cs, rfl, _⟩ := h
    rfl
  obtain ⟨ls, li, lc, ts, n, f, inside, cs, rfl, hL, hi, hc, hcn, hin, hsrc, hbig, q⟩ := h
  refine ⟨_, pss_cons (ps_set (i := 3) scHits.nd rfl (Or.inl rfl) pe_dnewK)
    (pss_cons (ps_for PassesOwn.never rfl (pi_list (pv 1)) (pg_name (i := 4) scHits.nd rfl (Or.inl rfl))
      (pss_one (ps_for PassesOwn.never rfl (pi_list (pe_ix ix_list (pv 0) (pv 4) (fun _ _ => rfl))) (pg_name (i := 5) scHits.nd rfl (Or.inl rfl))
        (pss_one (ps_expr (pe_bm PySem.F.plainAttrs_list PySem.F.slot_list_append PySem.F.type_list_append mt_append (pe_dsetd (pv 3) (pe_ix ix_list (pv 2) (pv 5) (fun _ _ => rfl)) (pe_lst pa_nil) ⟨rfl, rfl, rfl, rfl⟩) (pa_cons (pv 5) pa_nil)))))))
    (pss_one (ps_ret (pv 3)))), ?_⟩
  intro d hd
  have s0 := same_new hd (.dK [])
  have e0 : upd H d (.dK []) d = some (.dK []) := upd_same
  show tSeq _ _ _ _ (upd H d (.dK []))
  generalize upd H d (.dK []) = H1 at s0 e0 ⊢
  refine ⟨_, rfl, li, rfl, ⟨_, SqL.of (s0 _ _ hi)⟩, ?_⟩
  refine for_it (walk_list (xs := inside.map nI)) (fun i σ H' => ∃ (v4 v5 : Option V) (es : List (Nat × Addr)), σ = [some (.ref ls), some (.ref li), some (.ref lc), some (.ref d), v4, v5] ∧ Hits H' d es (clsOf cs) ((inside.take i).flatMap f) ∧ (∀ p ∈ es, H p.2 = none) ∧ Same H H')
    ⟨none, none, [], rfl, ⟨e0, List.nodup_nil, List.nodup_nil, (fun _ z => nomatch z), (fun _ z => nomatch z), (fun _ z => nomatch z)⟩, (fun _ z => nomatch z), s0⟩ (fun i σ H' _ ⟨_, _, _, _, _, _, s⟩ => s.seq (SqL.of hi)) ?_ ?_
  · rintro i x σ H2 H3 hlt ⟨v4, v5, es, rfl, k1, k2, k3⟩ ⟨rfl, hx⟩
    rw [List.getElem?_map] at hx
    obtain ⟨t, ht, rfl⟩ := Option.map_eq_some_iff.mp hx
    have hmem := List.mem_of_getElem? ht
    have htn := hin t hmem
    obtain ⟨a, ha⟩ : ∃ a, ts[t]? = some a := ⟨_, List.getElem?_eq_getElem (by rw [hL.len]; exact htn)⟩
    have hLa := hL.each t a ha
    have nx : (inside.take (i + 1)).flatMap f = (inside.take i).flatMap f ++ f t := by
      rw [List.take_add_one, ht, List.flatMap_append]
      simp
    have small : ∀ j, ((inside.take i).flatMap f ++ (f t).take j).length ≤ 10000 := fun j => by
      refine Nat.le_trans ?_ hbig
      have e : inside.flatMap f = ((inside.take i).flatMap f ++ f t) ++ (inside.drop (i + 1)).flatMap f := by rw [← nx, ← List.flatMap_append, List.take_append_drop]
      rw [e, List.length_append, List.length_append, List.length_append]
      have := List.length_take_le' j (f t)
      omega
    rw [nx]
    refine ⟨_, rfl, _, rfl, ls, _, _, .ref a, rfl, rfl, SqL.of (k3 _ _ hL.top), atI_nat (by rw [List.getElem?_map, ha]; rfl), a, rfl, ⟨_, SqL.of (k3 _ _ hLa)⟩, ?_⟩
    refine for_it (walk_list (xs := (f t).map nI)) (fun j σ H' => ∃ (v5 : Option V) (es : List (Nat × Addr)), σ = [some (.ref ls), some (.ref li), some (.ref lc), some (.ref d), some (nI t), v5] ∧ Hits H' d es (clsOf cs) ((inside.take i).flatMap f ++ (f t).take j) ∧ (∀ p ∈ es, H p.2 = none) ∧ Same H H')
      ⟨v5, es, rfl, by rw [List.take_zero, List.append_nil]; exact k1, k2, k3⟩ (fun i σ H' _ ⟨_, _, _, _, _, s⟩ => s.seq (SqL.of hLa)) ?_ ?_
    · rintro j y σ H4 H5 hj ⟨u5, es, rfl, m1, m2, m3⟩ ⟨rfl, hy⟩
      rw [List.getElem?_map] at hy
      obtain ⟨x, hx, rfl⟩ := Option.map_eq_some_iff.mp hy
      have hxn := hsrc t hmem x (List.mem_of_getElem? hx)
      have hcx : cs[x]? = some (clsOf cs x) := getD_at (by rw [hcn]; exact hxn)
      have nx2 : (inside.take i).flatMap f ++ (f t).take (j + 1) = ((inside.take i).flatMap f ++ (f t).take j) ++ [x] := by rw [List.take_add_one, hx, List.append_assoc]; rfl
      rw [nx2]
      have sm := small j
      generalize (inside.take i).flatMap f ++ (f t).take j = xs at m1 sm ⊢
      refine ⟨_, rfl, d, rfl, .inl ⟨_, .inl m1.top⟩, _, rfl, _, rfl, lc, _, _, nI (clsOf cs x), rfl, rfl, SqL.of (m3 _ _ hc), atI_nat (by rw [List.getElem?_map, hcx]; rfl), Nat.zero_le _, fun z hz => ?_⟩
      have s1 := same_new hz (.lst [])
      have ez : upd H5 z (.lst []) z = some (.lst []) := upd_same
      have m1' := m1.same s1
      have m3' := m3.trans s1
      have hzp : ∀ p ∈ es, p.2 ≠ z := fun p hp => ne_of_none (m1.each p hp) hz
      have hzH : H z = none := m3.free hz
      have hzd : z ≠ d := (ne_of_none m1.top hz).symm
      generalize upd H5 z (.lst []) = H6 at s1 ez m1' m3' ⊢
      refine ⟨refK es, Sum.inl (clsOf cs x : Int), m1'.top, rfl, ?_, fun v hv => ?_, fun hv => ?_⟩
      · rw [List.length_map]
        exact Nat.lt_of_le_of_lt (Nat.le_trans m1.few sm) (by decide)
      · by_cases c : clsOf cs x ∈ es.map (·.1)
        · obtain ⟨p, hp, e⟩ := List.mem_map.mp c
          obtain ⟨c1, a1⟩ := p
          obtain rfl : c1 = clsOf cs x := e
          rw [refK_some m1.keys hp] at hv
          obtain rfl : V.ref a1 = v := Option.some.inj hv
          have hl := m1'.each _ hp
          refine ⟨.inl ⟨rfl, _, SqL.of hl⟩, _, rfl, a1, _, _, rfl, rfl, hl, ?_, _, es, rfl, m1'.old hp, m2, fun b o e' => ?_⟩
          · rw [List.length_map]
            exact Nat.lt_of_le_of_lt (Nat.le_trans (List.length_filter_le _ _) sm) (by decide)
          · rw [upd_ne fun z' => by have y := m2 _ hp; rw [← z', e'] at y; exact nomatch y]
            exact m3' b o e'
        · rw [refK_none c] at hv
          exact nomatch hv
      · have c : clsOf cs x ∉ es.map (·.1) := fun c => by
          obtain ⟨p, hp, e⟩ := List.mem_map.mp c
          obtain ⟨c1, a1⟩ := p
          obtain rfl : c1 = clsOf cs x := e
          rw [refK_some m1.keys hp] at hv
          exact nomatch hv
        rw [putK_new _ hv]
        have ez' : upd H6 d (.dK (refK es ++ [((Sum.inl ((clsOf cs x : Nat) : Int) : Key), V.ref z)])) z = some (.lst []) := by rw [upd_ne hzd]; exact ez
        refine ⟨.inl ⟨rfl, _, SqL.of ez'⟩, _, rfl, z, _, _, rfl, rfl, ez', by decide, _, es ++ [(clsOf cs x, z)], rfl, m1'.new c hzd hzp, fun p hp => ?_, fun b o e' => ?_⟩
        · rcases List.mem_append.mp hp with hp | hp
          · exact m2 p hp
          · rw [List.mem_singleton.mp hp]; exact hzH
        · rw [upd_ne (ne_of_none e' hzH), upd_ne (ne_of_none e' hd)]
          exact m3' b o e'
    · rintro σ H4 ⟨u5, es, rfl, m1, m2, m3⟩
      rw [List.length_map, List.take_length] at m1
      exact ⟨_, _, es, rfl, m1, m2, m3⟩
  · rintro σ H2 ⟨v4, v5, es, rfl, k1, k2, k3⟩
    rw [List.length_map, List.take_length] at k1
    exact ⟨_, rfl, q d es H2 k3 hd k2 k1⟩
end
end Vf

set_option Elab.async false
set_option linter.all false
set_option maxRecDepth 100000
set_option maxHeartbeats 4000000
namespace Hop
/-! ### splitting classes until no letter parts them -/
variable {n k : Nat} {d : Nat → Nat → Nat} {E : Nat → Prop} {cls : Nat → Nat}
/-- what holds of the classes all the time -/
structure Ref (n k : Nat) (d : Nat → Nat → Nat) (E : Nat → Prop) (cls : Nat → Nat) : Prop where
  fl : ∀ p q, p < n → q < n → cls p = cls q → (E p ↔ E q)
  mx : ∀ R : Nat → Nat → Prop, (∀ p q, R p q → (E p ↔ E q)) → (∀ p q, R p q → ∀ a, a < k → R (d a p) (d a q)) → ∀ p q, p < n → q < n → R p q → cls p = cls q
/-- states of one class whose targets differ: one of both targets' classes waits, or the letter does -/
def Jn (n k : Nat) (d : Nat → Nat → Nat) (cls : Nat → Nat) (W S A : Nat → Prop) : Prop :=
  ∀ p q a, p < n → q < n → a < k → cls p = cls q → cls (d a p) ≠ cls (d a q) → W (cls (d a p)) ∨ W (cls (d a q)) ∨ (A a ∧ ¬ (S (d a p) ↔ S (d a q)))
def split (cls : Nat → Nat) (part : List Nat) (N : Nat) : Nat → Nat := fun x => if x ∈ part then N else cls x
theorem split_eq {part : List Nat} {N old p q : Nat} (hp : p < n) (hq : q < n) (hN : ∀ x, x < n → cls x ≠ N) (hpart : ∀ x ∈ part, cls x = old) (e : split cls part N p = split cls part N q) : cls p = cls q ∧ (p ∈ part ↔ q ∈ part) := by
  unfold split at e
  by_cases c1 : p ∈ part <;> by_cases c2 : q ∈ part
  · exact ⟨(hpart p c1).trans (hpart q c2).symm, iff_of_true c1 c2⟩
  · rw [if_pos c1, if_neg c2] at e
    exact absurd e.symm (hN q hq)
  · rw [if_neg c1, if_pos c2] at e
    exact absurd e (hN p hp)
  · rw [if_neg c1, if_neg c2] at e
    exact ⟨e, iff_of_false c1 c2⟩
theorem Jn.split {part : List Nat} {N old : Nat} {W W' S A : Nat → Prop} (J : Jn n k d cls W S A) (hd : ∀ a x, a < k → x < n → d a x < n) (hN : ∀ x, x < n → cls x ≠ N) (hpart : ∀ x ∈ part, cls x = old) (hW : ∀ c, W c → W' c) (hWN : W' N) :
    Jn n k d (split cls part N) W' S A := by
  intro p q a hp hq ha e ne
  obtain ⟨e1, _⟩ := split_eq hp hq hN hpart e
  have at' : ∀ x, W (cls x) → W' (Hop.split cls part N x) := fun x hx => by
    unfold Hop.split
    by_cases c : x ∈ part
    · rw [if_pos c]; exact hWN
    · rw [if_neg c]; exact hW _ hx
  by_cases c : cls (d a p) = cls (d a q)
  · by_cases c1 : d a p ∈ part
    · refine .inl ?_
      unfold Hop.split
      rw [if_pos c1]
      exact hWN
    · by_cases c2 : d a q ∈ part
      · refine .inr (.inl ?_)
        unfold Hop.split
        rw [if_pos c2]
        exact hWN
      · refine absurd ?_ ne
        unfold Hop.split
        rw [if_neg c1, if_neg c2]
        exact c
  · rcases J p q a hp hq ha e1 c with h | h | h
    · exact .inl (at' _ h)
    · exact .inr (.inl (at' _ h))
    · exact .inr (.inr h)
theorem Jn.pop {W W' : Nat → Prop} {C : Nat} {S : Nat → Prop} (J : Jn n k d cls W (fun _ => False) (fun _ => False)) (hd : ∀ a x, a < k → x < n → d a x < n) (hW : ∀ c, W c → c = C ∨ W' c) (hS : ∀ x, x < n → (S x ↔ cls x = C)) : Jn n k d cls W' S (fun a => a < k) := by
  intro p q a hp hq ha e ne
  have h1 := hd a p ha hp
  have h2 := hd a q ha hq
  rcases J p q a hp hq ha e ne with h | h | h
  · rcases hW _ h with h | h
    · refine .inr (.inr ⟨ha, fun z => ?_⟩)
      have y := (hS _ h2).mp (z.mp ((hS _ h1).mpr h))
      exact ne (h.trans y.symm)
    · exact .inl h
  · rcases hW _ h with h | h
    · refine .inr (.inr ⟨ha, fun z => ?_⟩)
      have y := (hS _ h1).mp (z.mpr ((hS _ h2).mpr h))
      exact ne (y.trans h.symm)
    · exact .inr (.inl h)
  · exact h.1.elim
theorem Jn.drop {W S A A' : Nat → Prop} {a0 : Nat} (J : Jn n k d cls W S A) (hA : ∀ a, A a → a ≠ a0 → A' a) (hR : ∀ p q, p < n → q < n → cls p = cls q → (S (d a0 p) ↔ S (d a0 q))) : Jn n k d cls W S A' := by
  intro p q a hp hq ha e ne
  rcases J p q a hp hq ha e ne with h | h | h
  · exact .inl h
  · exact .inr (.inl h)
  · by_cases c : a = a0
    · subst c
      exact absurd (hR p q hp hq e) h.2
    · exact .inr (.inr ⟨hA a h.1 c, h.2⟩)
theorem Ref.split {part : List Nat} {N old : Nat} (F : Ref n k d E cls) (hN : ∀ x, x < n → cls x ≠ N) (hpart : ∀ x ∈ part, cls x = old)
    (hR : ∀ R : Nat → Nat → Prop, (∀ p q, R p q → (E p ↔ E q)) → (∀ p q, R p q → ∀ a, a < k → R (d a p) (d a q)) → ∀ p q, p < n → q < n → R p q → (p ∈ part ↔ q ∈ part)) : Ref n k d E (split cls part N) := by
  refine ⟨fun p q hp hq e => F.fl p q hp hq (split_eq hp hq hN hpart e).1, fun R r1 r2 p q hp hq h => ?_⟩
  have e := F.mx R r1 r2 p q hp hq h
  have i := hR R r1 r2 p q hp hq h
  unfold Hop.split
  by_cases c : p ∈ part
  · rw [if_pos c, if_pos (i.mp c)]
  · rw [if_neg c, if_neg fun z => c (i.mpr z)]
    exact e
/-- one letter's way through the classes that were hit -/
structure Mid (n : Nat) (cls0 cls : Nat → Nat) (done : List Nat) (hit : Nat → Prop) : Prop where
  ref : ∀ p q, p < n → q < n → cls p = cls q → cls0 p = cls0 q
  dn : ∀ p q, p < n → q < n → cls p = cls q → cls0 p ∈ done → (hit p ↔ hit q)
  un : ∀ x, x < n → cls0 x ∉ done → cls x = cls0 x
theorem Mid.start (cls : Nat → Nat) (hit : Nat → Prop) : Mid n cls cls [] hit := ⟨fun _ _ _ _ e => e, (fun _ _ _ _ _ h => nomatch h), fun _ _ _ => rfl⟩
theorem Mid.all {cls0 : Nat → Nat} {done : List Nat} {hit : Nat → Prop} {old : Nat} (M : Mid n cls0 cls done hit) (h : ∀ x, x < n → cls0 x = old → hit x) : Mid n cls0 cls (done ++ [old]) hit := by
  refine ⟨M.ref, fun p q hp hq e hm => ?_, fun x hx hm => M.un x hx fun z => hm (List.mem_append_left _ z)⟩
  rcases List.mem_append.mp hm with hm | hm
  · exact M.dn p q hp hq e hm
  · have e1 : cls0 p = old := List.mem_singleton.mp hm
    exact iff_of_true (h p hp e1) (h q hq ((M.ref p q hp hq e).symm.trans e1))
theorem Mid.split {cls0 : Nat → Nat} {done : List Nat} {hit : Nat → Prop} {old N : Nat} {part : List Nat} (M : Mid n cls0 cls done hit) (hN : ∀ x, x < n → cls x ≠ N) (ho : old ∉ done) (hlt : ∀ x ∈ part, x < n) (hpart : ∀ x ∈ part, cls0 x = old) (hc : ∀ x ∈ part, cls x = old)
    (hh : (∀ x, x < n → cls0 x = old → (x ∈ part ↔ hit x)) ∨ (∀ x, x < n → cls0 x = old → (x ∈ part ↔ ¬ hit x))) : Mid n cls0 (split cls part N) (done ++ [old]) hit := by
  refine ⟨fun p q hp hq e => M.ref p q hp hq (split_eq hp hq hN hc e).1, fun p q hp hq e hm => ?_, fun x hx hm => ?_⟩
  · obtain ⟨e1, e2⟩ := split_eq hp hq hN hc e
    rcases List.mem_append.mp hm with hm | hm
    · exact M.dn p q hp hq e1 hm
    · have c1 : cls0 p = old := List.mem_singleton.mp hm
      have c2 : cls0 q = old := (M.ref p q hp hq e1).symm.trans c1
      rcases hh with hh | hh
      · exact ((hh p hp c1).symm.trans e2).trans (hh q hq c2)
      · have z := ((hh p hp c1).symm.trans e2).trans (hh q hq c2)
        exact ⟨fun h => Classical.byContradiction fun c => z.mpr c h, fun h => Classical.byContradiction fun c => z.mp c h⟩
  · have c1 : cls0 x ∉ done := fun z => hm (List.mem_append_left _ z)
    have c2 : x ∉ part := fun z => hm (List.mem_append_right _ (List.mem_singleton.mpr (hpart x z)))
    unfold Hop.split
    rw [if_neg c2]
    exact M.un x hx c1
/-- how many pairs of states are of one class -/
def pairs (n : Nat) (cls : Nat → Nat) : Nat := ((List.range n).map fun p => ((List.range n).filter fun q => cls p == cls q).length).sum
theorem filt_le {f g : Nat → Bool} : ∀ l : List Nat, (∀ x ∈ l, f x = true → g x = true) → (l.filter f).length ≤ (l.filter g).length
  | [], _ => Nat.le_refl _
  | x :: l, h => by
    have ih := filt_le l fun y hy => h y (List.mem_cons_of_mem _ hy)
    rw [List.filter_cons, List.filter_cons]
    by_cases c : f x = true
    · rw [if_pos c, if_pos (h x (List.mem_cons_self ..) c), List.length_cons, List.length_cons]
      omega
    · rw [if_neg c]
      by_cases c2 : g x = true
      · rw [if_pos c2, List.length_cons]; omega
      · rw [if_neg c2]; exact ih
theorem filt_lt {f g : Nat → Bool} : ∀ l : List Nat, (∀ x ∈ l, f x = true → g x = true) → (∃ x ∈ l, g x = true ∧ f x = false) → (l.filter f).length < (l.filter g).length
  | [], _, ⟨x, h, _⟩ => nomatch h
  | x :: l, h, ⟨y, hy, g1, f1⟩ => by
    have le := filt_le l fun y hy => h y (List.mem_cons_of_mem _ hy)
    rw [List.filter_cons, List.filter_cons]
    rcases List.mem_cons.mp hy with e | hy
    · subst e
      rw [if_neg (by rw [f1]; exact Bool.false_ne_true), if_pos g1, List.length_cons]
      omega
    · have ih := filt_lt l (fun y hy => h y (List.mem_cons_of_mem _ hy)) ⟨y, hy, g1, f1⟩
      by_cases c : f x = true
      · rw [if_pos c, if_pos (h x (List.mem_cons_self ..) c), List.length_cons, List.length_cons]
        omega
      · rw [if_neg c]
        by_cases c2 : g x = true
        · rw [if_pos c2, List.length_cons]; omega
        · rw [if_neg c2]; exact ih
theorem sum_le {f g : Nat → Nat} : ∀ l : List Nat, (∀ x ∈ l, f x ≤ g x) → (l.map f).sum ≤ (l.map g).sum
  | [], _ => Nat.le_refl _
  | x :: l, h => by
    have ih := sum_le l fun y hy => h y (List.mem_cons_of_mem _ hy)
    have hx := h x (List.mem_cons_self ..)
    simp only [List.map_cons, List.sum_cons]
    omega
theorem sum_lt {f g : Nat → Nat} : ∀ l : List Nat, (∀ x ∈ l, f x ≤ g x) → (∃ x ∈ l, f x < g x) → (l.map f).sum < (l.map g).sum
  | [], _, ⟨x, h, _⟩ => nomatch h
  | x :: l, h, ⟨y, hy, lt⟩ => by
    have le := sum_le l fun y hy => h y (List.mem_cons_of_mem _ hy)
    have hx := h x (List.mem_cons_self ..)
    simp only [List.map_cons, List.sum_cons]
    rcases List.mem_cons.mp hy with e | hy
    · subst e; omega
    · have ih := sum_lt l (fun y hy => h y (List.mem_cons_of_mem _ hy)) ⟨y, hy, lt⟩
      omega
theorem pairs_le (n : Nat) (cls : Nat → Nat) : pairs n cls ≤ n * n := by
  have q : ∀ l : List Nat, (l.map fun p => ((List.range n).filter fun q => cls p == cls q).length).sum ≤ l.length * n := by
    intro l
    induction l with
    | nil => simp
    | cons x l ih =>
      simp only [List.map_cons, List.sum_cons, List.length_cons, Nat.add_mul, Nat.one_mul]
      have z := List.length_filter_le (fun q => cls x == cls q) (List.range n)
      rw [List.length_range] at z
      omega
  have z := q (List.range n)
  rw [List.length_range] at z
  exact z
theorem pairs_split {part : List Nat} {N old p0 q0 : Nat} (hN : ∀ x, x < n → cls x ≠ N) (hpart : ∀ x ∈ part, cls x = old) (hp : p0 < n) (hq : q0 < n) (c1 : p0 ∈ part) (c2 : q0 ∉ part) (e : cls p0 = cls q0) : pairs n (split cls part N) < pairs n cls := by
  unfold pairs
  have le : ∀ p, p < n → ∀ q ∈ List.range n, (split cls part N p == split cls part N q) = true → (cls p == cls q) = true := fun p hp q hq z => by
    exact beq_iff_eq.mpr (split_eq hp (List.mem_range.mp hq) hN hpart (beq_iff_eq.mp z)).1
  refine sum_lt _ (fun p hp => filt_le _ (le p (List.mem_range.mp hp))) ⟨p0, List.mem_range.mpr hp, filt_lt _ (le p0 hp) ⟨q0, List.mem_range.mpr hq, beq_iff_eq.mpr e, ?_⟩⟩
  rw [beq_eq_false_iff_ne]
  intro z
  exact c2 ((split_eq hp hq hN hpart z).2.mp c1)
/-! the classes told by another function that agrees on the states -/
theorem Ref.congr {f g : Nat → Nat} (e : ∀ x, x < n → g x = f x) (F : Ref n k d E f) : Ref n k d E g :=
  ⟨fun p q hp hq h => F.fl p q hp hq (by rw [← e p hp, ← e q hq]; exact h), fun R r1 r2 p q hp hq h => by rw [e p hp, e q hq]; exact F.mx R r1 r2 p q hp hq h⟩
theorem Jn.congr {f g : Nat → Nat} {W S A : Nat → Prop} (hd : ∀ a x, a < k → x < n → d a x < n) (e : ∀ x, x < n → g x = f x) (J : Jn n k d f W S A) : Jn n k d g W S A := fun p q a hp hq ha h ne => by
  rw [e _ (hd a p ha hp), e _ (hd a q ha hq)] at ne ⊢
  exact J p q a hp hq ha (by rw [← e p hp, ← e q hq]; exact h) ne
theorem Mid.congr {f f0 g : Nat → Nat} {done : List Nat} {hit : Nat → Prop} (e : ∀ x, x < n → g x = f x) (M : Mid n f0 f done hit) : Mid n f0 g done hit :=
  ⟨fun p q hp hq h => M.ref p q hp hq (by rw [← e p hp, ← e q hq]; exact h), fun p q hp hq h => M.dn p q hp hq (by rw [← e p hp, ← e q hq]; exact h), fun x hx h => (e x hx).trans (M.un x hx h)⟩
theorem pairs_congr {f g : Nat → Nat} (e : ∀ x, x < n → g x = f x) : pairs n g = pairs n f := by
  unfold pairs
  congr 1
  refine List.map_congr_left fun p hp => ?_
  congr 1
  refine List.filter_congr fun q hq => ?_
  rw [e p (List.mem_range.mp hp), e q (List.mem_range.mp hq)]
end Hop

set_option Elab.async false
set_option linter.all false
set_option maxRecDepth 100000
set_option maxHeartbeats 4000000
namespace Vf
open PySem PySem.Spec PyProof.Rows L2 L2.Vx Vs
/-! ### smaller_part -/
abbrev sPart : Stmt := top 16
def spPart : Sp := fun vs H Q _ => ∃ (la lb : Addr) (xs ys : List Nat), vs = [.ref la, .ref lb] ∧ H la = some (.lst (xs.map nI)) ∧ H lb = some (.lst (ys.map nI)) ∧ ys.Nodup ∧ xs.length ≤ 1000 ∧ ys.length ≤ 1000 ∧
  ∀ l part H', Same H H' → (l = lb ∨ H l = none) → H' l = some (.lst (part.map nI)) → (part = ys ∨ part = xs.filter fun x => !decide (x ∈ ys)) → Q (.ref l) H'
section
variable {P : Program} {w : World} {K : PySem.W.Frag} {mg : Str → Option Value} {base : Heap}
abbrev nPart : List Str := ["states", "some", "left_out", "state"]
theorem scPart : FnScope nPart ["states", "some"] (defScope sPart) := ⟨rfl, rfl, rfl, by decide +kernel, rfl, by decide +kernel, by decide +kernel⟩
theorem seen_none {o : List Nat} {t : Nat} (c : t ∉ o) : valV (seenK o) (Sum.inl (t : Int)) = none := by
  cases e : valV (seenK o) (Sum.inl (t : Int)) with
  | none => rfl
  | some y =>
    have z := seen_val o t
    rw [e, decide_eq_false c] at z
    exact nomatch z
theorem ok_part {f : Addr} {fd : FuncData} (F : Fun K "smaller_part" "smaller_part" sPart f fd) (T : TxtM mg) : FnOk P w K mg base CX0 1 f fd ["states", "some"] spPart := by
  refine F.ok scPart (fun vs H Q E h => ?_) (fun cdv A outer s H vs Q E hr h => ?_)
  · obtain ⟨la, lb, xs, ys, rfl, _⟩ := h
    rfl
  obtain ⟨la, lb, xs, ys, rfl, ha, hb, nd, hx, hy, q⟩ := h
  have hu := hu_of hr
  refine ⟨_, pss_cons (ps_if (pt_cmpR op_le (pe_op op_mul pe_int (pe_callB call_len_seq (by rfl) T.len PySem.boot_len (pa_cons (pv 1) pa_nil))) (pe_callB call_len_seq (by rfl) T.len PySem.boot_len (pa_cons (pv 0) pa_nil)) (nomark _)) (pss_one (ps_ret (pv 1))) pss_nil)
    (pss_cons (ps_set (i := 2) scPart.nd rfl (Or.inr rfl) (pe_dc (own := [("state", 3)]) (g := gName 3) (tt := tYes) rfl scPart.nd (pi_list (pv 1)) (blkOk_by (N := nPart) (sc := defScope sPart) (by decide +kernel))
        (fun _ _ _ _ _ => pg_name (i := 3) scPart.nd rfl (Or.inl rfl)) (fun _ _ _ _ _ => pts_nil) (fun _ _ _ _ _ => by exact pv 3) (fun _ _ _ _ _ => by exact pe_bl)))
    (pss_one (ps_ret (pe_lc (own := [("state", 3)]) (g := gName 3) rfl scPart.nd (pi_list (pv 0)) (blkOk_by (N := nPart) (sc := defScope sPart) (by decide +kernel)) (fun _ _ _ _ _ => pg_name (i := 3) scPart.nd rfl (Or.inl rfl))
        (fun _ _ _ _ _ => by exact pts_one (pt_cmp (pc_dnotin hu (pv 3) (pv 2)))) (fun _ _ _ _ _ => by exact pv 3))))), ?_⟩
  refine ⟨_, rfl, lb, _, rfl, .inl (SqL.of hb), _, _, rfl, rfl, .inl ⟨by decide, by decide⟩, _, rfl, la, _, rfl, .inl (SqL.of ha), _, _, rfl, rfl, _, rfl, ?_⟩
  refine ite2 (fun _ => ⟨_, rfl, q lb ys H (Same.refl H) (.inl rfl) hb (.inl rfl)⟩) (fun _ => ?_)
  refine ⟨_, rfl, lb, rfl, ⟨_, SqL.of hb⟩, fun D hD => ?_⟩
  refine dc_it (walk_list (xs := ys.map nI)) (fun i H' => H' D = some (.dK (seenK (ys.take i))) ∧ Same H H') ⟨upd_same, same_new hD _⟩ (fun i H' _ ⟨_, s⟩ => s.seq (SqL.of hb)) ?_ ?_
  · rintro i x H1 H2 hi ⟨k1, k2⟩ ⟨rfl, hx'⟩
    rw [List.getElem?_map] at hx'
    obtain ⟨t, ht, rfl⟩ := Option.map_eq_some_iff.mp hx'
    have hn : t ∉ ys.take i := fun z => by
      obtain ⟨j, hj, e⟩ := List.getElem_of_mem z
      rw [List.length_take] at hj
      rw [List.getElem_take] at e
      obtain ⟨hi', e2⟩ := List.getElem?_eq_some_iff.mp ht
      exact List.pairwise_iff_getElem.mp nd j i (by omega) hi' (by omega) (e.trans e2.symm)
    refine ⟨rfl, _, rfl, _, Sum.inl (t : Int), rfl, k1, ?_, ?_, fun b o e => ?_⟩
    · unfold seenK
      rw [List.length_map]
      exact Nat.lt_of_le_of_lt (Nat.le_trans (List.length_take_le' _ _) hy) (by decide)
    · rw [upd_same, putK_new _ (seen_none hn), List.take_add_one, ht]
      unfold seenK
      rw [List.map_append]
      rfl
    · rw [upd_ne (ne_of_none e hD)]
      exact k2 b o e
  · rintro H1 ⟨k1, k2⟩
    rw [List.length_map, List.take_length] at k1
    refine ⟨_, rfl, la, rfl, ⟨_, SqL.of (k2 _ _ ha)⟩, fun D2 hD2 => ?_⟩
    refine lc_it (walk_list (xs := xs.map nI)) (fun i H' => H' D2 = some (.lst (((xs.take i).filter fun x => !decide (x ∈ ys)).map nI)) ∧ Same H1 H') ⟨upd_same, same_new hD2 _⟩ (fun i H' _ ⟨_, s⟩ => s.seq (SqL.of (k2 _ _ ha))) ?_ ?_
    · rintro i x H2 H3 hi ⟨m1, m2⟩ ⟨rfl, hx'⟩
      rw [List.getElem?_map] at hx'
      obtain ⟨t, ht, rfl⟩ := Option.map_eq_some_iff.mp hx'
      refine ⟨rfl, _, rfl, _, rfl, D, _, rfl, DGet.k (k := Sum.inl (t : Int)) (m2 _ _ k1), _, rfl, ?_⟩
      rw [seen_val]
      by_cases c : t ∈ ys
      · rw [decide_eq_true c]
        refine ⟨?_, m2⟩
        rw [m1, List.take_add_one, ht, List.filter_append]
        simp [c]
      · rw [decide_eq_false c]
        refine ⟨_, rfl, _, m1, ?_, ?_, fun b o e => ?_⟩
        · rw [List.length_map]
          exact Nat.lt_of_le_of_lt (Nat.le_trans (List.length_filter_le _ _) (Nat.le_trans (List.length_take_le' _ _) hx)) (by decide)
        · rw [upd_same, List.take_add_one, ht, List.filter_append, List.map_append]
          simp [c]
        · rw [upd_ne (ne_of_none e hD2)]
          exact m2 b o e
    · rintro H2 ⟨m1, m2⟩
      rw [List.length_map, List.take_length] at m1
      exact q D2 _ H2 (k2.trans m2) (.inr (k2.free hD2)) m1 (.inr rfl)
end
end Vf

set_option Elab.async false
set_option linter.all false
set_option maxRecDepth 100000
set_option maxHeartbeats 4000000
namespace Vf
open PySem PySem.Spec PyProof.Rows L2 L2.Vx Vs
/-! ### classes_of -/
abbrev sCls : Stmt := top 17
/-- rows all of one width -/
structure Square (rows : List (List Nat)) (k : Nat) : Prop where
  some : 0 < rows.length
  few : rows.length ≤ 1000
  wide : ∀ r ∈ rows, r.length = k
  thin : k ≤ 100
  inn : RowsIn rows rows.length
def spCls (K : PySem.W.Frag) : Sp := fun vs H Q _ => ∃ (v e : V) (rows : List (List Nat)) (ends : List Nat) (k : Nat), vs = [v, e] ∧ RowsAt K H v rows ∧ TupN K H e ends ∧ Square rows k ∧ (∀ x ∈ ends, x < rows.length) ∧ ends.Nodup ∧
  ∀ l cs H', Same H H' → H l = none → H' l = some (.lst (cs.map nI)) → cs.length = rows.length → Hop.Ref rows.length k (nextOf rows) (fun x => x ∈ ends) (clsOf cs) →
    (∀ p q a, p < rows.length → q < rows.length → a < k → clsOf cs p = clsOf cs q → clsOf cs (nextOf rows a p) = clsOf cs (nextOf rows a q)) → Q (.ref l) H'
/-- what the loops keep; Hs: the heap when the sources stood -/
structure CI (Hs H : Hp) (lc lw dm : Addr) (n : Nat) (cs : List Nat) (es : List (Nat × Addr)) (kk : Nat) : Prop where
  same : Same Hs H
  cl : H lc = some (.lst (cs.map nI))
  cn : cs.length = n
  dt : H dm = some (.dK (refK es))
  ek : es.map (·.1) = List.range kk
  mem : ∀ p ∈ es, p.2 ≠ lc ∧ p.2 ≠ lw ∧ ∃ ms : List Nat, H p.2 = some (.lst (ms.map nI)) ∧ ms.Nodup ∧ ∀ x, x ∈ ms ↔ x < n ∧ clsOf cs x = p.1
  lt : ∀ x, x < n → clsOf cs x < kk
theorem CI.up {Hs H H' : Hp} {lc lw dm : Addr} {n : Nat} {cs : List Nat} {es : List (Nat × Addr)} {kk : Nat} (h : CI Hs H lc lw dm n cs es kk) (s : Same H H') : CI Hs H' lc lw dm n cs es kk :=
  ⟨h.same.trans s, s _ _ h.cl, h.cn, s _ _ h.dt, h.ek, fun p hp => ⟨(h.mem p hp).1, (h.mem p hp).2.1, (h.mem p hp).2.2.imp fun ms z => ⟨s _ _ z.1, z.2⟩⟩, h.lt⟩
theorem CI.upd {Hs H : Hp} {lc lw dm x : Addr} {n : Nat} {cs : List Nat} {es : List (Nat × Addr)} {kk : Nat} (h : CI Hs H lc lw dm n cs es kk) (o : HO) (hx : Hs x = none) (h1 : x ≠ lc) (h2 : x ≠ dm) (h3 : ∀ p ∈ es, p.2 ≠ x) : CI Hs (upd H x o) lc lw dm n cs es kk :=
  ⟨fun b u e => by rw [upd_ne (ne_of_none e hx)]; exact h.same b u e, by rw [upd_ne h1.symm]; exact h.cl, h.cn, by rw [upd_ne h2.symm]; exact h.dt, h.ek,
    fun p hp => ⟨(h.mem p hp).1, (h.mem p hp).2.1, (h.mem p hp).2.2.imp fun ms z => ⟨by rw [upd_ne (h3 p hp)]; exact z.1, z.2⟩⟩, h.lt⟩
theorem CI.at {Hs H : Hp} {lc lw dm : Addr} {n : Nat} {cs : List Nat} {es : List (Nat × Addr)} {kk : Nat} (h : CI Hs H lc lw dm n cs es kk) {c : Nat} (hc : c < kk) :
    ∃ (t : Addr) (ms : List Nat), (c, t) ∈ es ∧ valV (refK es) (Sum.inl (c : Int)) = some (.ref t) ∧ t ≠ lc ∧ t ≠ lw ∧ H t = some (.lst (ms.map nI)) ∧ ms.Nodup ∧ ∀ x, x ∈ ms ↔ x < n ∧ clsOf cs x = c := by
  have hm : c ∈ es.map (·.1) := by rw [h.ek]; exact List.mem_range.mpr hc
  obtain ⟨p, hp, e⟩ := List.mem_map.mp hm
  obtain ⟨c1, t⟩ := p
  obtain rfl : c1 = c := e
  obtain ⟨m1, m2, ms, m3, m4, m5⟩ := h.mem _ hp
  exact ⟨t, ms, hp, refK_some (by rw [h.ek]; exact List.nodup_range) hp, m1, m2, m3, m4, m5⟩
structure WI (Hs H : Hp) (lc lw dm : Addr) (n k : Nat) (d : Nat → Nat → Nat) (E : Nat → Prop) (cs : List Nat) (es : List (Nat × Addr)) (kk : Nat) (W : List Nat) (m : Nat) : Prop where
  ci : CI Hs H lc lw dm n cs es kk
  wt : H lw = some (.lst (W.map nI))
  wk : ∀ c ∈ W, c < kk
  rf : Hop.Ref n k d E (clsOf cs)
  ms : 2 * Hop.pairs n (clsOf cs) + W.length ≤ m
  kb : 2 * Hop.pairs n (clsOf cs) + kk ≤ 2 * (n * n) + 2
theorem WI.up {Hs H H' : Hp} {lc lw dm : Addr} {n k : Nat} {d : Nat → Nat → Nat} {E : Nat → Prop} {cs : List Nat} {es : List (Nat × Addr)} {kk : Nat} {W : List Nat} {m : Nat} (h : WI Hs H lc lw dm n k d E cs es kk W m) (s : Same H H') : WI Hs H' lc lw dm n k d E cs es kk W m :=
  ⟨h.ci.up s, s _ _ h.wt, h.wk, h.rf, h.ms, h.kb⟩
theorem WI.upd {Hs H : Hp} {lc lw dm x : Addr} {n k : Nat} {d : Nat → Nat → Nat} {E : Nat → Prop} {cs : List Nat} {es : List (Nat × Addr)} {kk : Nat} {W : List Nat} {m : Nat} (h : WI Hs H lc lw dm n k d E cs es kk W m) (o : HO) (hx : Hs x = none) (h1 : x ≠ lc) (h2 : x ≠ dm) (h3 : ∀ p ∈ es, p.2 ≠ x) (h4 : x ≠ lw) : WI Hs (upd H x o) lc lw dm n k d E cs es kk W m :=
  ⟨h.ci.upd o hx h1 h2 h3, by rw [upd_ne h4.symm]; exact h.wt, h.wk, h.rf, h.ms, h.kb⟩
theorem flat_nodup {f : Nat → List Nat} (hf : ∀ t, (f t).Nodup) (hu : ∀ t u x, x ∈ f t → x ∈ f u → t = u) : ∀ l : List Nat, l.Nodup → (l.flatMap f).Nodup
  | [], _ => List.nodup_nil
  | t :: l, h => by
    obtain ⟨h1, h2⟩ := List.nodup_cons.mp h
    rw [List.flatMap_cons]
    refine List.nodup_append.mpr ⟨hf t, flat_nodup hf hu l h2, fun a ha b hb e => ?_⟩
    subst e
    obtain ⟨u, hul, hau⟩ := List.mem_flatMap.mp hb
    exact h1 (hu t u a ha hau ▸ hul)
theorem mem_src {rows : List (List Nat)} {a t x : Nat} : x ∈ srcOf rows a t ↔ x < rows.length ∧ nextOf rows a x = t := by
  unfold srcOf
  rw [List.mem_filter, List.mem_range, beq_iff_eq]
theorem mem_hit {rows : List (List Nat)} {a x : Nat} {ins : List Nat} : x ∈ ins.flatMap (srcOf rows a) ↔ x < rows.length ∧ nextOf rows a x ∈ ins := by
  rw [List.mem_flatMap]
  constructor
  · rintro ⟨t, ht, hx⟩
    obtain ⟨h1, h2⟩ := mem_src.mp hx
    exact ⟨h1, h2 ▸ ht⟩
  · rintro ⟨h1, h2⟩
    exact ⟨_, h2, mem_src.mpr ⟨h1, rfl⟩⟩
theorem hit_nodup {rows : List (List Nat)} {a : Nat} {ins : List Nat} (h : ins.Nodup) : (ins.flatMap (srcOf rows a)).Nodup :=
  flat_nodup (fun t => List.Pairwise.filter _ List.nodup_range) (fun t u x h1 h2 => (mem_src.mp h1).2.symm.trans (mem_src.mp h2).2) ins h
/-- the classes behind a split, as a list -/
def setAll (n : Nat) (cs part : List Nat) (N : Nat) : List Nat := (List.range n).map fun x => Hop.split (clsOf cs) part N x
theorem setAll_nil {n : Nat} {cs : List Nat} {N : Nat} (h : cs.length = n) : setAll n cs [] N = cs := by
  unfold setAll
  apply List.ext_getElem?
  intro i
  rw [List.getElem?_map]
  by_cases hi : i < n
  · rw [List.getElem?_range hi, getD_at (by omega)]
    rfl
  · rw [List.getElem?_eq_none (by simp; omega), List.getElem?_eq_none (by omega)]
    rfl
theorem setAll_set {n : Nat} {cs part : List Nat} {N x : Nat} (hx : x < n) : (setAll n cs part N).set x N = setAll n cs (part ++ [x]) N := by
  unfold setAll
  apply List.ext_getElem?
  intro i
  by_cases e : x = i
  · subst e
    rw [List.getElem?_set_self (by simp; exact hx), List.getElem?_map, List.getElem?_range hx]
    show some N = some (Hop.split _ _ _ _)
    unfold Hop.split
    rw [if_pos (List.mem_append_right _ (List.mem_singleton.mpr rfl))]
  · rw [List.getElem?_set_ne e, List.getElem?_map, List.getElem?_map]
    by_cases hi : i < n
    · rw [List.getElem?_range hi]
      show some (Hop.split _ _ _ _) = some (Hop.split _ _ _ _)
      unfold Hop.split
      have : i ∈ part ++ [x] ↔ i ∈ part := by simp [Ne.symm e]
      simp only [this]
    · rw [List.getElem?_eq_none (by simp; omega)]
      rfl
theorem setAll_cls {n : Nat} {cs part : List Nat} {N x : Nat} (hx : x < n) : clsOf (setAll n cs part N) x = Hop.split (clsOf cs) part N x := by
  unfold clsOf setAll
  rw [List.getD_eq_getElem?_getD, List.getElem?_map, List.getElem?_range hx]
  rfl
theorem sub_all : ∀ (l m : List Nat), l.Nodup → (∀ x ∈ l, x ∈ m) → m.length ≤ l.length → ∀ y ∈ m, y ∈ l
  | [], m, _, _, h, y, hy => by rw [List.length_eq_zero_iff.mp (Nat.le_zero.mp h)] at hy; exact nomatch hy
  | x :: l, m, d, s, h, y, hy => by
    obtain ⟨d1, d2⟩ := List.nodup_cons.mp d
    have p := List.perm_cons_erase (s x (List.mem_cons_self ..))
    have hl := p.length_eq
    simp only [List.length_cons] at hl h
    rcases List.mem_cons.mp (p.mem_iff.mp hy) with e | e
    · rw [e]; exact List.mem_cons_self ..
    · exact List.mem_cons_of_mem _ (sub_all l (m.erase x) d2 (fun k hk => (List.mem_erase_of_ne fun z : k = x => d1 (by rw [← z]; exact hk)).mpr (s k (List.mem_cons_of_mem _ hk))) (by omega) y e)
theorem nodup_sub : ∀ (l m : List Nat), l.Nodup → (∀ x ∈ l, x ∈ m) → l.length ≤ m.length
  | [], m, _, _ => Nat.zero_le _
  | x :: l, m, d, s => by
    obtain ⟨d1, d2⟩ := List.nodup_cons.mp d
    have p := (List.perm_cons_erase (s x (List.mem_cons_self ..))).length_eq
    have q := nodup_sub l (m.erase x) d2 fun k hk => (List.mem_erase_of_ne fun z : k = x => d1 (by rw [← z]; exact hk)).mpr (s k (List.mem_cons_of_mem _ hk))
    simp only [List.length_cons] at p ⊢
    omega
theorem refK_put {es : List (Nat × Addr)} {c : Nat} {t : Addr} (h : c ∈ es.map (·.1)) : putK (refK es) (Sum.inl (c : Int)) (.ref t) = refK (es.map fun e => if e.1 = c then (c, t) else e) := by
  unfold putK
  have a : ((refK es).any fun kv => decide (kv.1 = Sum.inl (c : Int))) = true := by
    obtain ⟨p, hp, e⟩ := List.mem_map.mp h
    refine List.any_eq_true.mpr ⟨_, List.mem_map.mpr ⟨p, hp, rfl⟩, decide_eq_true ?_⟩
    rw [e]
  rw [if_pos a]
  unfold refK
  rw [List.map_map, List.map_map]
  refine List.map_congr_left fun e _ => ?_
  show (if (Sum.inl ((e.1 : Nat) : Int) : Key) = Sum.inl (c : Int) then _ else _) = _
  by_cases z : e.1 = c
  · rw [if_pos (by rw [z])]
    show _ = ((Sum.inl (((if e.1 = c then (c, t) else e).1 : Nat) : Int) : Key), V.ref (if e.1 = c then (c, t) else e).2)
    rw [if_pos z]
    show ((Sum.inl ((e.1 : Nat) : Int) : Key), V.ref t) = ((Sum.inl ((c : Nat) : Int) : Key), V.ref t)
    rw [z]
  · rw [if_neg fun y => z (by have q := Sum.inl.inj y; omega)]
    show _ = ((Sum.inl (((if e.1 = c then (c, t) else e).1 : Nat) : Int) : Key), V.ref (if e.1 = c then (c, t) else e).2)
    rw [if_neg z]
theorem keys_put {es : List (Nat × Addr)} {c : Nat} {t : Addr} : (es.map fun e => if e.1 = c then (c, t) else e).map (·.1) = es.map (·.1) := by
  rw [List.map_map]
  refine List.map_congr_left fun e _ => ?_
  show (if e.1 = c then (c, t) else e).1 = e.1
  split
  · rename_i h; exact h.symm
  · rfl
section
variable {P : Program} {w : World} {K : PySem.W.Frag} {mg : Str → Option Value} {base : Heap}
abbrev nCls : List Str := ["rows", "ends", "sources", "classes", "state", "members", "waiting", "inside", "known", "hits", "old", "hit", "new", "part", "at", "flag", "found"]
theorem scCls : FnScope nCls ["rows", "ends"] (defScope sCls) := ⟨rfl, rfl, rfl, by decide +kernel, rfl, by decide +kernel, by decide +kernel⟩
theorem ok_cls {f fF fS fH fP : Addr} {fd fdF fdS fdH fdP : FuncData} (F : Fun K "classes_of" "classes_of" sCls f fd) (T : TxtM mg)
    (GF : FnOk P w K mg base CX0 1 fF fdF ["many", "ends"] (spFlags K)) (bF : Binds K fdF ["many", "ends"] []) (kF : PySem.W.keepIn K (.ref fF) = true) (mF : mg "end_flags" = some (.ref fF))
    (GS : FnOk P w K mg base CX0 1 fS fdS ["rows", "at"] (spSrc K)) (bS : Binds K fdS ["rows", "at"] []) (kS : PySem.W.keepIn K (.ref fS) = true) (mS : mg "sources_of" = some (.ref fS))
    (GH : FnOk P w K mg base CX0 1 fH fdH ["sources", "inside", "classes"] spHits) (bH : Binds K fdH ["sources", "inside", "classes"] []) (kH : PySem.W.keepIn K (.ref fH) = true) (mH : mg "hits_of" = some (.ref fH))
    (GP : FnOk P w K mg base CX0 1 fP fdP ["states", "some"] spPart) (bP : Binds K fdP ["states", "some"] []) (kP : PySem.W.keepIn K (.ref fP) = true) (mP : mg "smaller_part" = some (.ref fP)) :
    FnOk P w K mg base CX0 2 f fd ["rows", "ends"] (spCls K) := by
  refine F.ok scCls (fun vs H Q E h => ?_) (fun cdv A outer s H vs Q E hr h => ?_)
  · obtain ⟨v, e, rows, ends, k, rfl, _⟩ := h
    rfl
  obtain ⟨v, e, rows, ends, k, rfl, hR, hE, sq, hel, hend, q⟩ := h
  have hu := hu_of hr
  refine ⟨_, pss_cons (ps_setLc (i := 2) (own := [("at", 14)]) (g := gName 14) (tt := tYes) rfl scCls.nd rfl rfl (sw_true rfl rfl rfl (by decide +kernel)) (pi_range1 rfl T.range (pa_cons (pe_callB call_len_seq (by rfl) T.len PySem.boot_len (pa_cons (pe_ix ix_tup (pv 0) pe_int (fun _ _ => rfl)) pa_nil)) pa_nil))
        (blkOk_by (N := nCls) (sc := defScope sCls) (by decide +kernel)) (fun _ _ _ _ _ => pg_name (i := 14) scCls.nd rfl (Or.inl rfl)) (fun _ _ _ _ _ => pts_nil) (fun _ _ _ _ _ => by exact pe_call GS hr rfl mS kS bS .nil pass0 (pa_cons (pv 0) (pa_cons (pv 14) pa_nil))))
    (pss_cons (ps_set (i := 3) scCls.nd rfl (Or.inr rfl) (pe_lc (own := [("flag", 15)]) (g := gName 15) (tt := tYes) rfl scCls.nd (pi_list (pe_call GF hr rfl mF kF bF .nil pass0 (pa_cons (pe_callB call_len_seq (by rfl) T.len PySem.boot_len (pa_cons (pv 0) pa_nil)) (pa_cons (pv 1) pa_nil))))
        (blkOk_by (N := nCls) (sc := defScope sCls) (by decide +kernel)) (fun _ _ _ _ _ => pg_name (i := 15) scCls.nd rfl (Or.inl rfl)) (fun _ _ _ _ _ => pts_nil) (fun _ _ _ _ _ => by exact pe_callTy call_int1 (by rfl) T.int (by decide +kernel) (pa_cons (pv 15) pa_nil))))
    (pss_cons (ps_set (i := 5) scCls.nd rfl (Or.inl rfl) (pe_disp (pps_cons pe_int (pe_lc (own := [("state", 4), ("found", 16)]) (g := gTup K 2 (gCons (gName 4) (gCons (gName 16) gNil))) rfl scCls.nd (pi_enum (by rfl) T.enu (pa_cons (pv 3) pa_nil))
          (blkOk_by (N := nCls) (sc := defScope sCls) (by decide +kernel)) (fun _ _ _ _ _ => by exact (pg_tup rfl (pgs_cons (pg_name (i := 4) scCls.nd rfl (Or.inl rfl)) (pgs_cons (pg_name (i := 16) scCls.nd rfl (Or.inl rfl)) pgs_nil))))
          (fun _ _ _ _ _ => by exact pts_one (pt_cmpR op_eq (pv 16) pe_int (nomark _))) (fun _ _ _ _ _ => by exact pv 4))
        (pps_cons pe_int (pe_callTy call_list_of (by rfl) T.list (by decide +kernel) (pa_cons (pv 1) pa_nil)) pps_nil)) (by rfl) (by rfl) (fun z => by cases z) (by decide)))
    (pss_cons (ps_set (i := 6) scCls.nd rfl (Or.inl rfl) (pe_lst (pa_cons pe_int (pa_cons pe_int pa_nil))))
    (pss_cons (ps_while PassesOwn.never (pt_truth (pv 6) (by intro _; rfl))
      (pss_cons (ps_set (i := 7) scCls.nd rfl (Or.inl rfl) (pe_dget hu (pv 5) (pe_bm0 PySem.F.plainAttrs_list PySem.F.slot_list_pop PySem.F.type_list_pop mt_pop (pv 6)) (fun _ _ => rfl)))
      (pss_one (ps_for PassesOwn.never rfl (pi_list (pv 2)) (pg_name (i := 8) scCls.nd rfl (Or.inl rfl))
        (pss_cons (ps_set (i := 9) scCls.nd rfl (Or.inl rfl) (pe_call GH hr rfl mH kH bH .nil pass0 (pa_cons (pv 8) (pa_cons (pv 7) (pa_cons (pv 3) pa_nil)))))
        (pss_one (ps_lock (ps_for PassesOwn.never rfl (pi_items (pv 9)) (pg_tup rfl (pgs_cons (pg_name (i := 10) scCls.nd rfl (Or.inr rfl)) (pgs_cons (pg_name (i := 11) scCls.nd rfl (Or.inl rfl)) pgs_nil)))
          (pss_one (ps_if (pt_cmpR op_lt (pe_callB call_len_seq (by rfl) T.len PySem.boot_len (pa_cons (pv 11) pa_nil)) (pe_callB call_len_seq (by rfl) T.len PySem.boot_len (pa_cons (pe_dget hu (pv 5) (pv 10) (fun _ _ => rfl)) pa_nil)) (nomark _))
            (pss_cons (ps_set (i := 12) scCls.nd rfl (Or.inl rfl) (pe_callB call_lenD (by rfl) T.len PySem.boot_len (pa_cons (pv 5) pa_nil)))
            (pss_cons (ps_set (i := 13) scCls.nd rfl (Or.inl rfl) (pe_call GP hr rfl mP kP bP .nil pass0 (pa_cons (pe_dget hu (pv 5) (pv 10) (fun _ _ => rfl)) (pa_cons (pv 11) pa_nil))))
            (pss_cons (ps_for PassesOwn.never rfl (pi_list (pv 13)) (pg_name (i := 4) scCls.nd rfl (Or.inl rfl)) (pss_one (ps_asg (pv 12) (pg_sub (pv 3) (pv 4) set_list))))
            (pss_cons (ps_dput hu (pv 5) (pv 12) (pv 13) rfl)
            (pss_cons (ps_dput hu (pv 5) (pv 10) (pe_lc (own := [("state", 4)]) (g := gName 4) rfl scCls.nd (pi_list (pe_dget hu (pv 5) (pv 10) (fun _ _ => rfl))) (blkOk_by (N := nCls) (sc := defScope sCls) (by decide +kernel)) (fun _ _ _ _ _ => pg_name (i := 4) scCls.nd rfl (Or.inl rfl))
                (fun _ _ _ _ _ => by exact pts_one (pt_cmpR op_eq (pe_ix (ixL_at (K := K) rfl) (pv 3) (pv 4) (fun _ _ => rfl)) (pv 10) (nomark _))) (fun _ _ _ _ _ => by exact pv 4)) rfl)
            (pss_one (ps_expr (pe_bm PySem.F.plainAttrs_list PySem.F.slot_list_append PySem.F.type_list_append mt_append (pv 6) (pa_cons (pv 12) pa_nil)))))))))
            pss_nil))))))))))
    (pss_one (ps_ret (pv 3))))))), ?_⟩
  obtain ⟨va, bs, b0, rfl, hva, hb0, hrow0⟩ := hR.row sq.some
  obtain ⟨va', bs', eva, hva', hbl', _⟩ := id hR
  cases eva
  have hk0 : ((rowOf rows 0).map nI).length = k := by
    rw [List.length_map]
    exact sq.wide _ (List.mem_of_getElem? (rowOf_at sq.some))
  have hthin := sq.thin
  have hfew := sq.few
  refine ⟨_, rfl, va, bs, _, .ref b0, rfl, rfl, hva, atI_nat (j := 0) hb0, b0, _, rfl, .inr hrow0, _, rfl, by rw [hk0]; omega, by rw [hk0]; omega, fun S hS => ?_⟩
  rw [hk0]
  rw [show ((k : Int)).toNat = k by omega]
  refine lc_range (lo := 0) (n := k) (fun i H' => ∃ ks : List Addr, H' S = some (.lst (ks.map V.ref)) ∧ ks.length = i ∧ (∀ (a : Nat) (l : Addr), ks[a]? = some l → ∃ ts, l ≠ S ∧ (∀ t ∈ ts, t ≠ S) ∧ LsAt H' l ts rows.length (srcOf rows a)) ∧ Same H H')
    ⟨[], upd_same, rfl, (fun _ _ z => nomatch z), same_new hS _⟩ ?_ ?_
  · rintro i H1 hi ⟨ks, k1, k2, k3, k4⟩
    refine ⟨rfl, _, rfl, _, rfl, .ref va, rows, i, by simp, hR.same k4, sq.inn, fun r hr => by rw [sq.wide r hr]; exact hi, sq.few, fun l ts H2 s2 hl hts L => ?_⟩
    have hlS : l ≠ S := (ne_of_none k1 hl).symm
    have htS : ∀ t ∈ ts, t ≠ S := fun t ht => (ne_of_none k1 (hts t ht)).symm
    have keep : ∀ {l : Addr} {ts : List Addr} {f : Nat → List Nat} {o : HO}, l ≠ S → (∀ t ∈ ts, t ≠ S) → LsAt H2 l ts rows.length f → LsAt (upd H2 S o) l ts rows.length f := fun h1 h2 L =>
      ⟨by rw [upd_ne h1]; exact L.top, L.len, fun j t e => by rw [upd_ne (h2 t (List.mem_of_getElem? e))]; exact L.each j t e⟩
    refine ⟨_, s2 _ _ k1, by rw [List.length_map, k2]; exact Nat.lt_of_lt_of_le hi (Nat.le_trans hthin (by decide)), ks ++ [l], by rw [upd_same, List.map_append]; rfl, by rw [List.length_append, k2]; rfl, fun a u hu => ?_, fun b o e => ?_⟩
    · rcases Nat.lt_or_ge a ks.length with c | c
      · rw [List.getElem?_append_left c] at hu
        obtain ⟨ts', h1, h2, h3⟩ := k3 a u hu
        exact ⟨ts', h1, h2, keep h1 h2 (h3.same s2)⟩
      · rw [List.getElem?_append_right c] at hu
        have c0 : a - ks.length = 0 := by
          rcases Nat.eq_zero_or_pos (a - ks.length) with w | w
          · exact w
          · rw [List.getElem?_eq_none (by simp; omega)] at hu
            exact nomatch hu
        rw [c0] at hu
        obtain rfl : l = u := Option.some.inj hu
        obtain rfl : a = i := by omega
        exact ⟨ts, hlS, htS, keep hlS htS L⟩
    · rw [upd_ne (ne_of_none e hS)]
      exact s2 _ _ (k4 b o e)
  · rintro Hs ⟨ks, z1, z2, z3, sS⟩
    have hE1 := hE.same sS
    have hva1 := same_T sS hva'
    refine ⟨_, rfl, va, _, rfl, .inr hva1, _, rfl, rows.length, e, ends, by rw [hbl']; rfl, hE1, hel, by omega, fun lf H2 s2 hlf g2 => ⟨lf, rfl, ⟨_, SqL.of g2⟩, fun C hC => ?_⟩⟩
    refine lc_it (walk_list (xs := (flagsOf rows.length ends).map V.bl)) (fun i H' => H' C = some (.lst ((((flagsOf rows.length ends).take i).map fun b => if b = true then 1 else 0).map nI)) ∧ Same H2 H') ⟨upd_same, same_new hC _⟩ (fun i H' _ ⟨_, s⟩ => s.seq (SqL.of g2)) ?_ ?_
    · rintro i x H3 H4 hi ⟨k1, k2⟩ ⟨rfl, hx⟩
      rw [List.getElem?_map] at hx
      obtain ⟨b, hb, rfl⟩ := Option.map_eq_some_iff.mp hx
      have lf' : (flagsOf rows.length ends).length = rows.length := by simp [flagsOf]
      refine ⟨rfl, _, rfl, .inr ⟨_, rfl, _, k1, ?_, ?_, fun c o e => ?_⟩⟩
      · rw [List.length_map, List.length_map]
        exact Nat.lt_of_le_of_lt (List.length_take_le' _ _) (by rw [lf']; exact Nat.lt_of_le_of_lt hfew (by decide))
      · rw [upd_same, List.take_add_one, hb, List.map_append, List.map_append]
        cases b <;> rfl
      · rw [upd_ne (ne_of_none e hC)]
        exact k2 c o e
    · rintro H3 ⟨k1, k2⟩
      rw [List.length_map, List.take_length] at k1
      generalize hcs : ((flagsOf rows.length ends).map fun b => if b = true then 1 else 0) = cs0 at k1
      have cn0 : cs0.length = rows.length := by rw [← hcs]; simp [flagsOf]
      have cl0 : ∀ x, x < rows.length → clsOf cs0 x = if x ∈ ends then 1 else 0 := fun x hx => by
        unfold clsOf
        rw [← hcs, List.getD_eq_getElem?_getD, List.getElem?_map, show (flagsOf rows.length ends)[x]? = some (decide (x ∈ ends)) by unfold flagsOf; rw [List.getElem?_map, List.getElem?_range hx]; rfl]
        by_cases c : x ∈ ends <;> simp [c]
      have hCS : Hs C = none := s2.free hC
      have sC : Same Hs H3 := s2.trans k2
      intro dm hdm
      have sm := same_new hdm (.dK [])
      have kC := sm _ _ k1
      have emd : upd H3 dm (.dK []) dm = some (.dK []) := upd_same
      have hdS : Hs dm = none := sC.free hdm
      have sC' := sC.trans sm
      show tPairs _ _ (upd H3 dm (.dK [])) _
      generalize upd H3 dm (.dK []) = H4 at sm kC emd sC' ⊢
      refine ⟨_, rfl, C, _, rfl, SqL.of kC, fun D1 hD1 => ?_⟩
      refine lc_it (walk_enum (xs := cs0.map nI)) (fun i H' => H' D1 = some (.lst (((List.range i).filter fun x => clsOf cs0 x == 0).map nI)) ∧ Same H4 H') ⟨upd_same, same_new hD1 _⟩ (fun i H' _ ⟨_, s⟩ => s.seq (SqL.of kC)) ?_ ?_
      · rintro i x H5 H6 hi ⟨n1, n2⟩ ⟨T1, x1, y1, rfl, hT, rfl, e1, e2⟩
        obtain rfl : V.int (i : Nat) = x1 := Option.some.inj e1
        rw [List.length_map] at hi
        have e2' : some (nI (clsOf cs0 i)) = some y1 := by
          have z : (cs0.map nI)[i]? = some y1 := e2
          rw [List.getElem?_map, getD_at hi] at z
          exact z
        obtain rfl : nI (clsOf cs0 i) = y1 := Option.some.inj e2'
        have n1' := (upd_ne (o := .tup [V.int (i : Nat), nI (clsOf cs0 i)]) (ne_of_none n1 hT)).trans n1
        have n2' := n2.trans (same_new hT (.tup [V.int (i : Nat), nI (clsOf cs0 i)]))
        refine ⟨T1, _, rfl, SqT.of upd_same, rfl, _, _, rfl, _, _, rfl, rfl, rfl, _, rfl, rfl, _, rfl, ?_⟩
        generalize upd H5 T1 (.tup [V.int (i : Nat), nI (clsOf cs0 i)]) = H7 at n1' n2' ⊢
        by_cases c : clsOf cs0 i = 0
        · refine ite2 (fun _ => ⟨_, rfl, _, n1', ?_, ?_, fun b u e => ?_⟩) (fun z => absurd (decide_eq_true (by rw [c]; rfl)) z)
          · rw [List.length_map]
            refine Nat.lt_of_le_of_lt (List.length_filter_le _ _) ?_
            rw [List.length_range]
            exact Nat.lt_of_lt_of_le (by rw [cn0] at hi; exact hi) (Nat.le_trans hfew (by decide))
          · rw [upd_same, List.range_succ, List.filter_append, List.map_append]
            simp [c]
          · rw [upd_ne (ne_of_none e hD1)]
            exact n2' b u e
        · refine ite2 (fun z => ?_) (fun _ => ⟨?_, n2'⟩)
          · have z' := of_decide_eq_true z
            have z2 : ((clsOf cs0 i : Nat) : Int) = 0 := V.int.inj z'
            omega
          · rw [n1', List.range_succ, List.filter_append]
            simp [c]
      · rintro H5 ⟨n1, n2⟩
        rw [List.length_map, cn0] at n1
        obtain ⟨ae, rfl, hae⟩ := hE1
        have n2s := sC'.trans n2
        refine ⟨_, rfl, ae, _, rfl, .inr (same_T n2s hae), fun l2 hl2 => ?_⟩
        have s6 := same_new hl2 (.lst (ends.map nI))
        refine ⟨s6 _ _ (n2 _ _ emd), [(Sum.inl 0, .ref D1), (Sum.inl 1, .ref l2)], rfl, (by show 2 ≤ 15; decide), ?_⟩
        have eD1 := s6 _ _ n1
        have el2 : upd H5 l2 (.lst (ends.map nI)) l2 = some (.lst (ends.map nI)) := upd_same
        have s6s := n2s.trans s6
        have kC6 := s6 _ _ (n2 _ _ kC)
        have hD1S : Hs D1 = none := sC'.free hD1
        have hl2S : Hs l2 = none := n2s.free hl2
        have e61 : D1 ≠ l2 := ne_of_none n1 hl2
        have e62 : C ≠ D1 := ne_of_none kC hD1
        have e63 : C ≠ l2 := ne_of_none (n2 _ _ kC) hl2
        have e64 : D1 ≠ dm := (ne_of_none emd hD1).symm
        have e65 : l2 ≠ dm := (ne_of_none (n2 _ _ emd) hl2).symm
        have e66 : C ≠ dm := ne_of_none k1 hdm
        generalize upd H5 l2 (.lst (ends.map nI)) = H6 at s6 eD1 el2 s6s kC6 ⊢
        show gName 5 _ _ (upd H6 dm (.dK (refK [(0, D1), (1, l2)]))) _
        have f1 : upd H6 dm (.dK (refK [(0, D1), (1, l2)])) dm = some (.dK (refK [(0, D1), (1, l2)])) := upd_same
        have f2 : upd H6 dm (.dK (refK [(0, D1), (1, l2)])) C = some (.lst (cs0.map nI)) := (upd_ne e66).trans kC6
        have f3 : upd H6 dm (.dK (refK [(0, D1), (1, l2)])) D1 = some (.lst (((List.range rows.length).filter fun x => clsOf cs0 x == 0).map nI)) := (upd_ne e64).trans eD1
        have f4 : upd H6 dm (.dK (refK [(0, D1), (1, l2)])) l2 = some (.lst (ends.map nI)) := (upd_ne e65).trans el2
        have f5 : Same Hs (upd H6 dm (.dK (refK [(0, D1), (1, l2)]))) := fun b o e => by rw [upd_ne (ne_of_none e hdS)]; exact s6s b o e
        generalize upd H6 dm (.dK (refK [(0, D1), (1, l2)])) = H7 at f1 f2 f3 f4 f5 ⊢
        refine ⟨by show 2 ≤ sizeLine; decide, fun lw hlw => ?_⟩
        have s8 := same_new hlw (.lst [V.int 0, V.int 1])
        have g1 : upd H7 lw (.lst [V.int 0, V.int 1]) lw = some (.lst (([0, 1] : List Nat).map nI)) := upd_same
        have ci : CI Hs (upd H7 lw (.lst [V.int 0, V.int 1])) C lw dm rows.length cs0 [(0, D1), (1, l2)] 2 := by
          refine ⟨f5.trans s8, s8 _ _ f2, cn0, s8 _ _ f1, rfl, fun p hp => ?_, fun x hx => ?_⟩
          · rcases List.mem_cons.mp hp with rfl | hp
            · refine ⟨e62.symm, ne_of_none f3 hlw, _, s8 _ _ f3, List.Pairwise.filter _ List.nodup_range, fun x => ?_⟩
              rw [List.mem_filter, List.mem_range, beq_iff_eq]
            · rw [List.mem_singleton.mp hp]
              refine ⟨e63.symm, ne_of_none f4 hlw, _, s8 _ _ f4, hend, fun x => ⟨fun hx => ⟨hel x hx, ?_⟩, fun hx => ?_⟩⟩
              · rw [cl0 x (hel x hx), if_pos hx]
              · have z := hx.2
                rw [cl0 x hx.1] at z
                by_cases c : x ∈ ends
                · exact c
                · rw [if_neg c] at z
                  exact nomatch z
          · rw [cl0 x hx]
            split <;> omega
        have hlwS : Hs lw = none := f5.free hlw
        have hClw : C ≠ lw := ne_of_none f2 hlw
        show gName 6 _ _ (upd H7 lw (.lst [V.int 0, V.int 1])) _
        generalize upd H7 lw (.lst [V.int 0, V.int 1]) = H8 at g1 ci ⊢
        have hd' : ∀ a x, a < k → x < rows.length → nextOf rows a x < rows.length := fun a x ha hx => rowOf_mem sq.inn _ (List.mem_of_getElem? (next_at hx fun r hr => by rw [sq.wide r hr]; exact ha))
        have rf0 : Hop.Ref rows.length k (nextOf rows) (fun x => x ∈ ends) (clsOf cs0) := by
          refine ⟨fun p q' hp hq e => ?_, fun R r1 r2 p q' hp hq h => ?_⟩
          · rw [cl0 p hp, cl0 q' hq] at e
            by_cases c1 : p ∈ ends <;> by_cases c2 : q' ∈ ends
            · exact iff_of_true c1 c2
            · rw [if_pos c1, if_neg c2] at e; exact nomatch e
            · rw [if_neg c1, if_pos c2] at e; exact nomatch e
            · exact iff_of_false c1 c2
          · rw [cl0 p hp, cl0 q' hq]
            have z := r1 p q' h
            by_cases c1 : p ∈ ends
            · rw [if_pos c1, if_pos (z.mp c1)]
            · rw [if_neg c1, if_neg fun y => c1 (z.mpr y)]
        have pb : Hop.pairs rows.length (clsOf cs0) ≤ rows.length * rows.length := Hop.pairs_le _ _
        have nn : rows.length * rows.length ≤ 1000000 := Nat.mul_le_mul hfew hfew
        have wi0 : WI Hs H8 C lw dm rows.length k (nextOf rows) (fun x => x ∈ ends) cs0 [(0, D1), (1, l2)] 2 [0, 1] (2 * (rows.length * rows.length) + 2) :=
          ⟨ci, g1, fun c hc => by simp at hc; omega, rf0, by show _ + 2 ≤ _; omega, by omega⟩
        have hCdm := e66
        have hlwdm : lw ≠ dm := by
          intro z
          rw [z, ci.dt] at g1
          exact nomatch g1
        refine ⟨fun m σ H' => m ≤ 2 * (rows.length * rows.length) + 2 ∧ ∃ (cs : List Nat) (es : List (Nat × Addr)) (kk : Nat) (W : List Nat) (v4 v7 v8 v9 v10 v11 v12 v13 : Option V), σ = [some (.ref va), some (.ref ae), some (.ref S), some (.ref C), v4, some (.ref dm), some (.ref lw), v7, v8, v9, v10, v11, v12, v13, none, none, none] ∧
          WI Hs H' C lw dm rows.length k (nextOf rows) (fun x => x ∈ ends) cs es kk W m ∧ Hop.Jn rows.length k (nextOf rows) (clsOf cs) (fun c => c ∈ W) (fun _ => False) (fun _ => False),
          ⟨_, Nat.le_refl _, cs0, _, 2, [0, 1], none, none, none, none, none, none, none, none, rfl, wi0, fun p q' a hp hq ha e ne => ?_⟩, ?_⟩
        · refine .inl ?_
          rw [cl0 _ (hd' a p ha hp)]
          split <;> simp
        rintro m σ H' ⟨hmB, cs, es, kk, W, v4, v7, v8, v9, v10, v11, v12, v13, rfl, wi, jn⟩
        refine ⟨_, rfl, _, .inl ⟨_, SqL.of wi.wt, rfl⟩, ?_⟩
        rcases List.eq_nil_or_concat W with rfl | ⟨W', c, hW⟩
        · refine ⟨_, rfl, q C cs H' (sS.trans wi.ci.same) (sS.free hCS) wi.ci.cl wi.ci.cn wi.rf fun p q' a hp hq ha e => ?_⟩
          by_cases z : clsOf cs (nextOf rows a p) = clsOf cs (nextOf rows a q')
          · exact z
          · rcases jn p q' a hp hq ha e z with h | h | h
            · exact nomatch h
            · exact nomatch h
            · exact h.1.elim
        · rw [List.concat_eq_append] at hW
          subst hW
          have ne : (!((W' ++ [c]).map nI).isEmpty) = true := by simp
          rw [ne, if_pos rfl]
          have hck := wi.wk c (by simp)
          obtain ⟨li, ins, hli, hval, li1, li2, hins, insn, insm⟩ := wi.ci.at hck
          have hmlen := wi.ms
          rw [List.length_append] at hmlen
          have insR : ∀ R : Nat → Nat → Prop, (∀ p q, R p q → (p ∈ ends ↔ q ∈ ends)) → (∀ p q, R p q → ∀ a, a < k → R (nextOf rows a p) (nextOf rows a q)) → ∀ p q, p < rows.length → q < rows.length → R p q → (p ∈ ins ↔ q ∈ ins) := fun R r1 r2 p q' hp hq h => by
            have e := wi.rf.mx R r1 r2 p q' hp hq h
            rw [insm p, insm q', e]
            exact ⟨fun z => ⟨hq, z.2⟩, fun z => ⟨hp, z.2⟩⟩
          refine ⟨fun σ' H'' => ∃ (cs : List Nat) (es : List (Nat × Addr)) (kk : Nat) (W : List Nat) (v4 v7 v8 v9 v10 v11 v12 v13 : Option V), σ' = [some (.ref va), some (.ref ae), some (.ref S), some (.ref C), v4, some (.ref dm), some (.ref lw), v7, v8, v9, v10, v11, v12, v13, none, none, none] ∧
            WI Hs H'' C lw dm rows.length k (nextOf rows) (fun x => x ∈ ends) cs es kk W (m - 1) ∧ Hop.Jn rows.length k (nextOf rows) (clsOf cs) (fun c => c ∈ W) (fun _ => False) (fun _ => False), fun σ' H'' z => ⟨m - 1, by simp at hmlen; omega, by omega, z⟩, ?_⟩
          have hlast : ((W' ++ [c]).map nI)[((W' ++ [c]).map nI).length - 1]? = some (nI c) := by
            rw [List.length_map, List.getElem?_map, List.length_append]
            simp
          have hdrop : ((W' ++ [c]).map nI).dropLast = W'.map nI := by rw [List.map_append]; simp
          refine ⟨_, rfl, _, rfl, .inl ⟨rfl, _, SqL.of wi.wt⟩, lw, _, nI c, rfl, rfl, wi.wt, hlast, dm, .ref li, rfl, ?_, ?_⟩
          · rw [← hval]
            exact DGet.k (k := Sum.inl (c : Int)) (by rw [upd_ne hlwdm.symm]; exact wi.ci.dt)
          rw [hdrop]
          have wi1 : WI Hs (upd H' lw (.lst (W'.map nI))) C lw dm rows.length k (nextOf rows) (fun x => x ∈ ends) cs es kk W' (m - 1) :=
            ⟨wi.ci.upd _ hlwS hClw.symm hlwdm (fun p hp => (wi.ci.mem p hp).2.1), upd_same, fun c' hc' => wi.wk c' (List.mem_append_left _ hc'), wi.rf, by simp at hmlen; omega, wi.kb⟩
          have hli1 : upd H' lw (.lst (W'.map nI)) li = some (.lst (ins.map nI)) := by rw [upd_ne li2]; exact hins
          show gName 7 _ _ (upd H' lw (.lst (W'.map nI))) _
          generalize upd H' lw (.lst (W'.map nI)) = H1 at wi1 hli1 ⊢
          have insS : ∀ x, x < rows.length → (x ∈ ins ↔ clsOf cs x = c) := fun x hx => (insm x).trans ⟨fun z => z.2, fun z => ⟨hx, z⟩⟩
          have jn1 := Hop.Jn.pop (W' := fun c => c ∈ W') (C := c) (S := fun x => x ∈ ins) jn hd' (fun c' hc' => by simp at hc'; exact hc'.symm) insS
          refine ⟨_, rfl, S, rfl, ⟨_, SqL.of (wi1.ci.same _ _ z1)⟩, ?_⟩
          refine for_it (walk_list (xs := ks.map V.ref)) (fun a σ H2 => ∃ (cs : List Nat) (es : List (Nat × Addr)) (kk : Nat) (W : List Nat) (v4 v8 v9 v10 v11 v12 v13 : Option V), σ = [some (.ref va), some (.ref ae), some (.ref S), some (.ref C), v4, some (.ref dm), some (.ref lw), some (.ref li), v8, v9, v10, v11, v12, v13, none, none, none] ∧
            WI Hs H2 C lw dm rows.length k (nextOf rows) (fun x => x ∈ ends) cs es kk W (m - 1) ∧ Hop.Jn rows.length k (nextOf rows) (clsOf cs) (fun c => c ∈ W) (fun x => x ∈ ins) (fun a' => a ≤ a' ∧ a' < k) ∧ H2 li = some (.lst (ins.map nI)))
            ⟨cs, es, kk, W', v4, v8, v9, v10, v11, v12, v13, rfl, wi1, fun p q' a hp hq ha e ne => (jn1 p q' a hp hq ha e ne).imp id (Or.imp id fun z => ⟨⟨Nat.zero_le _, z.1⟩, z.2⟩), hli1⟩ (fun a σ H2 _ ⟨_, _, _, _, _, _, _, _, _, _, _, _, w2, _⟩ => SqL.of (w2.ci.same _ _ z1)) ?_ ?_
          · rintro a x σ H2 H3 ha ⟨cs, es, kk, W, v4, v8, v9, v10, v11, v12, v13, rfl, wi2, jn2, hli2⟩ ⟨rfl, hx⟩
            rw [List.length_map, z2] at ha
            rw [List.getElem?_map] at hx
            obtain ⟨l, hl, rfl⟩ := Option.map_eq_some_iff.mp hx
            obtain ⟨ts, _, _, L⟩ := z3 a l hl
            have xnd := hit_nodup (rows := rows) (a := a) insn
            have xlen : (ins.flatMap (srcOf rows a)).length ≤ 1000 := Nat.le_trans (nodup_lt _ _ xnd fun x hx => (mem_hit.mp hx).1) hfew
            refine ⟨_, rfl, _, rfl, _, rfl, l, li, C, ts, rows.length, srcOf rows a, ins, cs, rfl, L.same wi2.ci.same, hli2, wi2.ci.cl, wi2.ci.cn, fun t ht => ((insm t).mp ht).1, fun t _ x hx => (mem_src.mp hx).1, by omega, fun d hs H4 s4 hdn hpn hits => ?_⟩
            have dC : C ≠ d := ne_of_none wi2.ci.cl hdn
            have dlw : lw ≠ d := ne_of_none wi2.wt hdn
            have ddm : dm ≠ d := ne_of_none wi2.ci.dt hdn
            have dli : li ≠ d := ne_of_none hli2 hdn
            have hdS' : Hs d = none := wi2.ci.same.free hdn
            have hpl : ∀ p ∈ hs, p.2 ≠ d ∧ p.2 ≠ C ∧ p.2 ≠ lw := fun p hp => ⟨ne_of (hits.each p hp) hits.top (by intro z; cases z), (ne_of_none wi2.ci.cl (hpn p hp)).symm, (ne_of_none wi2.wt (hpn p hp)).symm⟩
            refine ⟨d, _, hits.top, trivial, fun od => ?_⟩
            refine ⟨_, rfl, d, od, _, rfl, upd_same, ?_⟩
            have wi5 := (wi2.up s4).upd (x := d) (.frz od (.dK (refK hs))) hdS' dC.symm ddm.symm (fun p hp => by obtain ⟨_, _, ms, m3, _⟩ := wi2.ci.mem p hp; exact ne_of_none m3 hdn) dlw.symm
            have hli5 : upd H4 d (.frz od (.dK (refK hs))) li = some (.lst (ins.map nI)) := by rw [upd_ne dli]; exact s4 _ _ hli2
            have hit5 : ∀ p ∈ hs, upd H4 d (.frz od (.dK (refK hs))) p.2 = some (.lst (((ins.flatMap (srcOf rows a)).filter fun x => clsOf cs x == p.1).map nI)) := fun p hp => by rw [upd_ne (hpl p hp).1]; exact hits.each p hp
            have frz5 : upd H4 d (.frz od (.dK (refK hs))) d = some (.frz od (.dK (refK hs))) := upd_same
            generalize upd H4 d (.frz od (.dK (refK hs))) = H5 at wi5 hli5 hit5 frz5 ⊢
            refine for_it walk_items (fun i σ H6 => ∃ (cs' : List Nat) (es' : List (Nat × Addr)) (kk' : Nat) (W' : List Nat) (v4 v10 v11 v12 v13 : Option V), σ = [some (.ref va), some (.ref ae), some (.ref S), some (.ref C), v4, some (.ref dm), some (.ref lw), some (.ref li), some (.ref l), some (.ref d), v10, v11, v12, v13, none, none, none] ∧
              WI Hs H6 C lw dm rows.length k (nextOf rows) (fun x => x ∈ ends) cs' es' kk' W' (m - 1) ∧ Hop.Jn rows.length k (nextOf rows) (clsOf cs') (fun c => c ∈ W') (fun x => x ∈ ins) (fun a' => a ≤ a' ∧ a' < k) ∧
              Hop.Mid rows.length (clsOf cs) (clsOf cs') ((hs.take i).map (·.1)) (fun x => nextOf rows a x ∈ ins) ∧ H6 li = some (.lst (ins.map nI)) ∧ H6 d = some (.frz od (.dK (refK hs))) ∧ (∀ p ∈ hs, H6 p.2 = some (.lst (((ins.flatMap (srcOf rows a)).filter fun x => clsOf cs x == p.1).map nI))))
              ⟨cs, es, kk, W, v4, v10, v11, v12, v13, rfl, wi5, jn2, Hop.Mid.start _ _, hli5, frz5, hit5⟩ (fun i σ H6 _ ⟨_, _, _, _, _, _, _, _, _, _, _, _, _, _, w6, _⟩ => w6) ?_ ?_
            · rintro i x σ H6 H7 hi ⟨cs', es', kk', W', v4, v10, v11, v12, v13, rfl, wi6, jn6, mid, hli6, frz6, hit6⟩ ⟨T1, x1, y1, rfl, hT, rfl, e1, e2⟩
              rw [List.length_map] at hi
              have hp : hs[i] ∈ hs := List.getElem_mem hi
              have hpi : hs[i]? = some hs[i] := List.getElem?_eq_getElem hi
              have hn : hs[i].1 ∉ (hs.take i).map (·.1) := fun z => by
                obtain ⟨p, hp', e⟩ := List.mem_map.mp z
                obtain ⟨j, hj, e'⟩ := List.getElem_of_mem hp'
                rw [List.length_take] at hj
                rw [List.getElem_take] at e'
                have f := List.pairwise_iff_getElem.mp hits.keys j i (by rw [List.length_map]; omega) (by rw [List.length_map]; omega) (by omega)
                rw [List.getElem_map, List.getElem_map, e'] at f
                exact f e
              have hnx : (hs.take (i + 1)).map (·.1) = (hs.take i).map (·.1) ++ [hs[i].1] := by
                rw [List.take_add_one, hpi, List.map_append]
                rfl
              rw [hnx]
              have e1' : ((refK hs)[i]?).map (fun kv => kV kv.1) = some x1 := e1
              have e2' : ((refK hs)[i]?).map Prod.snd = some y1 := e2
              rw [List.getElem?_map, hpi] at e1' e2'
              have hx1 : V.int ((hs[i].1 : Nat) : Int) = x1 := Option.some.inj e1'
              have hy1 : V.ref hs[i].2 = y1 := Option.some.inj e2'
              clear e1 e2 e1' e2'
              subst hx1 hy1
              generalize hs[i] = p at hp hn ⊢
              obtain ⟨old, t1⟩ := p
              have sT := same_new hT (.tup [V.int ((old : Nat) : Int), .ref t1])
              refine ⟨T1, _, rfl, SqT.of upd_same, rfl, _, _, rfl, _, _, rfl, rfl, ?_⟩
              have wi7 := wi6.up sT
              have hli7 := sT _ _ hli6
              have frz7 := sT _ _ frz6
              have hit7 := fun p hp => sT _ _ (hit6 p hp)
              show tIfS _ _ _ _ _ (upd H6 T1 (.tup [V.int ((old : Nat) : Int), .ref t1]))
              generalize upd H6 T1 (.tup [V.int ((old : Nat) : Int), .ref t1]) = H8 at wi7 hli7 frz7 hit7 ⊢
              obtain ⟨x0, hx0, hc0⟩ := hits.some _ hp
              have hx0n := (mem_hit.mp hx0).1
              have hold : old < kk' := by
                have z := wi7.ci.lt x0 hx0n
                rw [mid.un x0 hx0n (by rw [hc0]; exact hn), hc0] at z
                exact z
              obtain ⟨t0, ms0, ht0, hval0, t0C, t0lw, hms, msn, msm⟩ := wi7.ci.at hold
              have msm' : ∀ x, x ∈ ms0 ↔ x < rows.length ∧ clsOf cs x = old := fun x => by
                rw [msm x]
                constructor
                · rintro ⟨h1, h2⟩
                  refine ⟨h1, ?_⟩
                  have e0 : clsOf cs' x0 = old := by rw [mid.un x0 hx0n (by rw [hc0]; exact hn), hc0]
                  exact (mid.ref x x0 h1 hx0n (h2.trans e0.symm)).trans hc0
                · rintro ⟨h1, h2⟩
                  exact ⟨h1, by rw [mid.un x h1 (by rw [h2]; exact hn)]; exact h2⟩
              have hl7 := hit7 _ hp
              have hlm : ∀ x, x ∈ (ins.flatMap (srcOf rows a)).filter (fun x => clsOf cs x == old) ↔ (x < rows.length ∧ nextOf rows a x ∈ ins) ∧ clsOf cs x = old := fun x => by rw [List.mem_filter, mem_hit, beq_iff_eq]
              have hlnd : ((ins.flatMap (srcOf rows a)).filter fun x => clsOf cs x == old).Nodup := List.Pairwise.filter _ xnd
              have hllen : ((ins.flatMap (srcOf rows a)).filter fun x => clsOf cs x == old).length ≤ 1000 := Nat.le_trans (List.length_filter_le _ _) xlen
              have tp := hpl _ hp
              generalize (ins.flatMap (srcOf rows a)).filter (fun x => clsOf cs x == old) = hlist at hl7 hlm hlnd hllen
              have hsub : ∀ x ∈ hlist, x ∈ ms0 := fun x hx => (msm' x).mpr ⟨((hlm x).mp hx).1.1, ((hlm x).mp hx).2⟩
              have ms1000 : ms0.length ≤ 1000 := Nat.le_trans (nodup_lt _ _ msn fun x hx => ((msm x).mp hx).1) hfew
              have dget : ∀ {Hx : Hp}, Hx dm = some (.dK (refK es')) → DGet Hx dm (nI old) (some (.ref t0)) := fun h => by rw [← hval0]; exact DGet.k (k := Sum.inl (old : Int)) h
              refine ⟨_, rfl, t1, _, rfl, .inl (SqL.of hl7), _, rfl, _, rfl, dm, .ref t0, rfl, dget wi7.ci.dt, t0, _, rfl, .inl (SqL.of hms), _, _, rfl, rfl, _, rfl, ?_⟩
              rw [List.length_map, List.length_map]
              refine ite2 (fun hlt => ?_) (fun hge => ?_)
              · have hlt' : hlist.length < ms0.length := by
                  have z : ((hlist.length : Int) < (ms0.length : Int)) := of_decide_eq_true hlt
                  omega
                have kkl : (refK es').length = kk' := by
                  have z := congrArg List.length wi7.ci.ek
                  rw [List.length_map, List.length_range] at z
                  rw [List.length_map]
                  exact z
                have kbig : kk' ≤ 2000002 := by have := wi7.kb; omega
                refine ⟨_, rfl, dm, _, rfl, wi7.ci.dt, ?_⟩
                rw [kkl]
                refine ⟨_, rfl, _, rfl, dm, .ref t0, rfl, dget wi7.ci.dt, _, rfl, t0, t1, ms0, hlist, rfl, hms, hl7, hlnd, ms1000, hllen, fun l part H9 s9 hlf hpart hor => ?_⟩
                have wi9 := wi7.up s9
                have hli9 := s9 _ _ hli7
                have frz9 := s9 _ _ frz7
                have hit9 := fun p hp => s9 _ _ (hit7 p hp)
                have hms9 := s9 _ _ hms
                have lC : l ≠ C := by
                  rcases hlf with e | e
                  · rw [e]; exact tp.2.1
                  · exact (ne_of_none wi7.ci.cl e).symm
                have llw : l ≠ lw := by
                  rcases hlf with e | e
                  · rw [e]; exact tp.2.2
                  · exact (ne_of_none wi7.wt e).symm
                have ldm : l ≠ dm := ne_of hpart wi9.ci.dt (by intro z; cases z)
                have psub : ∀ x ∈ part, x ∈ ms0 := fun x hx => by
                  rcases hor with e | e
                  · rw [e] at hx; exact hsub x hx
                  · rw [e] at hx; exact (List.mem_filter.mp hx).1
                have pnd : part.Nodup := by
                  rcases hor with e | e
                  · rw [e]; exact hlnd
                  · rw [e]; exact List.Pairwise.filter _ msn
                have plt : ∀ x ∈ part, x < rows.length := fun x hx => ((msm x).mp (psub x hx)).1
                have pcl : ∀ x ∈ part, clsOf cs' x = old := fun x hx => ((msm x).mp (psub x hx)).2
                have pcl0 : ∀ x ∈ part, clsOf cs x = old := fun x hx => ((msm' x).mp (psub x hx)).2
                have fresh : ∀ x, x < rows.length → clsOf cs' x ≠ kk' := fun x hx e => by have := wi9.ci.lt x hx; omega
                have phh : (∀ x, x < rows.length → clsOf cs x = old → (x ∈ part ↔ nextOf rows a x ∈ ins)) ∨ (∀ x, x < rows.length → clsOf cs x = old → (x ∈ part ↔ ¬ nextOf rows a x ∈ ins)) := by
                  rcases hor with e | e
                  · exact .inl fun x hx ec => by rw [e, hlm x]; exact ⟨fun z => z.1.2, fun z => ⟨⟨hx, z⟩, ec⟩⟩
                  · refine .inr fun x hx ec => ?_
                    rw [e, List.mem_filter]
                    simp only [Bool.not_eq_true', decide_eq_false_iff_not]
                    rw [hlm x]
                    exact ⟨fun z y => z.2 ⟨⟨hx, y⟩, ec⟩, fun z => ⟨(msm' x).mpr ⟨hx, ec⟩, fun y => z y.1.2⟩⟩
                have two : ∃ p0 q0, p0 < rows.length ∧ q0 < rows.length ∧ p0 ∈ part ∧ q0 ∉ part ∧ clsOf cs' p0 = clsOf cs' q0 := by
                  have x0m : x0 ∈ hlist := (hlm x0).mpr ⟨⟨hx0n, (mem_hit.mp hx0).2⟩, hc0⟩
                  obtain ⟨y0, y1, y2⟩ : ∃ y, y ∈ ms0 ∧ y ∉ hlist := Classical.byContradiction fun z => by
                    have z2 := nodup_sub ms0 hlist msn fun y hy => Classical.byContradiction fun w => z ⟨y, hy, w⟩
                    omega
                  have cx : clsOf cs' x0 = old := ((msm x0).mp (hsub x0 x0m)).2
                  have cy : clsOf cs' y0 = old := ((msm y0).mp y1).2
                  have ly := ((msm y0).mp y1).1
                  rcases hor with e | e
                  · exact ⟨x0, y0, hx0n, ly, by rw [e]; exact x0m, by rw [e]; exact y2, cx.trans cy.symm⟩
                  · refine ⟨y0, x0, ly, hx0n, by rw [e]; exact List.mem_filter.mpr ⟨y1, by simp [y2]⟩, fun z => ?_, cy.trans cx.symm⟩
                    rw [e] at z
                    have z2 := (List.mem_filter.mp z).2
                    simp [x0m] at z2
                refine ⟨_, rfl, l, rfl, ⟨_, SqL.of hpart⟩, ?_⟩
                refine for_it (walk_list (xs := part.map nI)) (fun j σ H10 => ∃ v4 : Option V, σ = [some (.ref va), some (.ref ae), some (.ref S), some (.ref C), v4, some (.ref dm), some (.ref lw), some (.ref li), some (.ref _), some (.ref d), some (nI old), some (.ref t1), some (nI kk'), some (.ref l), none, none, none] ∧
                  H10 C = some (.lst ((setAll rows.length cs' (part.take j) kk').map nI)) ∧ (∀ b u, b ≠ C → H9 b = some u → H10 b = some u))
                  ⟨_, rfl, by rw [List.take_zero, setAll_nil wi9.ci.cn]; exact wi9.ci.cl, fun _ _ _ e => e⟩ (fun j σ H10 _ ⟨_, _, _, s⟩ => SqL.of (s _ _ lC hpart)) ?_ ?_
                · rintro j x σ H10 H11 hj ⟨u4, rfl, g1, g2⟩ ⟨rfl, hx⟩
                  rw [List.getElem?_map] at hx
                  obtain ⟨y, hy, rfl⟩ := Option.map_eq_some_iff.mp hx
                  have hyn := plt y (List.mem_of_getElem? hy)
                  refine ⟨_, rfl, _, rfl, _, rfl, C, _, (y : Int), y, rfl, rfl, g1, ixN_nat (by simp [setAll]; exact hyn), _, rfl, ?_, fun b u n e => ?_⟩
                  · rw [upd_same, ← List.map_set, setAll_set hyn, List.take_add_one, hy]
                    rfl
                  · rw [upd_ne n]
                    exact g2 b u n e
                · rintro σ H10 ⟨u4, rfl, g1, g2⟩
                  rw [List.length_map, List.take_length] at g1
                  have dt10 : H10 dm = some (.dK (refK es')) := g2 _ _ hCdm.symm wi9.ci.dt
                  have t010 : H10 t0 = some (.lst (ms0.map nI)) := g2 _ _ t0C hms9
                  refine ⟨_, rfl, _, rfl, _, rfl, dm, _, rfl, DPut.k (k := Sum.inl (kk' : Int)) dt10 (by rw [kkl]; exact Nat.lt_of_le_of_lt kbig (by decide)), ?_⟩
                  have kno : kk' ∉ es'.map (·.1) := by rw [wi9.ci.ek]; simp
                  rw [putK_new _ (refK_none kno)]
                  have er2 : refK es' ++ [((Sum.inl ((kk' : Nat) : Int) : Key), V.ref l)] = refK (es' ++ [(kk', l)]) := by unfold refK; rw [List.map_append]; rfl
                  rw [er2]
                  have ek2 : (es' ++ [(kk', l)]).map (·.1) = List.range (kk' + 1) := by rw [List.map_append, wi9.ci.ek, List.range_succ]; rfl
                  have e11 : upd H10 dm (.dK (refK (es' ++ [(kk', l)]))) dm = some (.dK (refK (es' ++ [(kk', l)]))) := upd_same
                  have k11 : ∀ b u, b ≠ dm → H10 b = some u → upd H10 dm (.dK (refK (es' ++ [(kk', l)]))) b = some u := fun b u n e => by rw [upd_ne n]; exact e
                  generalize upd H10 dm (.dK (refK (es' ++ [(kk', l)]))) = H11 at e11 k11 ⊢
                  have t0dm : t0 ≠ dm := ne_of hms9 wi9.ci.dt (by intro z; cases z)
                  have t011 := k11 _ _ t0dm t010
                  have c11 := k11 _ _ hCdm g1
                  have hv2 : valV (refK (es' ++ [(kk', l)])) (Sum.inl (old : Int)) = some (.ref t0) := refK_some (by rw [ek2]; exact List.nodup_range) (List.mem_append_left _ ht0)
                  refine ⟨_, rfl, _, rfl, dm, .ref t0, rfl, by rw [← hv2]; exact DGet.k (k := Sum.inl (old : Int)) e11, t0, rfl, ⟨_, SqL.of t011⟩, fun D9 hD9 => ?_⟩
                  have D9C : D9 ≠ C := (ne_of_none c11 hD9).symm
                  have lw11 : H11 lw = some (.lst (W'.map nI)) := k11 _ _ hlwdm (g2 _ _ hClw.symm wi9.wt)
                  have D9lw : D9 ≠ lw := (ne_of_none lw11 hD9).symm
                  have D9dm : D9 ≠ dm := (ne_of_none e11 hD9).symm
                  refine lc_it (walk_list (xs := ms0.map nI)) (fun j H' => H' D9 = some (.lst (((ms0.take j).filter fun x => Hop.split (clsOf cs') part kk' x == old).map nI)) ∧ Same H11 H') ⟨upd_same, same_new hD9 _⟩ (fun i H' _ ⟨_, s⟩ => s.seq (SqL.of t011)) ?_ ?_
                  · rintro j x H12 H13 hj ⟨n1, n2⟩ ⟨rfl, hx⟩
                    rw [List.getElem?_map] at hx
                    obtain ⟨y, hy, rfl⟩ := Option.map_eq_some_iff.mp hx
                    have hyn := ((msm y).mp (List.mem_of_getElem? hy)).1
                    have hcy : ((setAll rows.length cs' part kk').map nI)[y]? = some (nI (Hop.split (clsOf cs') part kk' y)) := by
                      unfold setAll
                      rw [List.getElem?_map, List.getElem?_map, List.getElem?_range hyn]
                      rfl
                    refine ⟨rfl, _, rfl, _, rfl, C, _, _, nI (Hop.split (clsOf cs') part kk' y), rfl, rfl, SqL.of (n2 _ _ c11), atI_nat hcy, _, rfl, rfl, _, rfl, ?_⟩
                    by_cases c : Hop.split (clsOf cs') part kk' y = old
                    · refine ite2 (fun _ => ⟨_, rfl, _, n1, ?_, ?_, fun b u e => ?_⟩) (fun z => absurd (decide_eq_true (by rw [c])) z)
                      · rw [List.length_map]
                        exact Nat.lt_of_le_of_lt (Nat.le_trans (List.length_filter_le _ _) (Nat.le_trans (List.length_take_le' _ _) ms1000)) (by decide)
                      · rw [upd_same, List.take_add_one, hy, List.filter_append, List.map_append]
                        simp [c]
                      · rw [upd_ne (ne_of_none e hD9)]
                        exact n2 b u e
                    · refine ite2 (fun z => ?_) (fun _ => ⟨?_, n2⟩)
                      · have z2 : ((Hop.split (clsOf cs') part kk' y : Nat) : Int) = (old : Int) := V.int.inj (of_decide_eq_true z)
                        omega
                      · rw [n1, List.take_add_one, hy, List.filter_append]
                        simp [c]
                  · rintro H12 ⟨n1, n2⟩
                    rw [List.length_map, List.take_length] at n1
                    refine ⟨_, rfl, _, rfl, dm, _, rfl, DPut.k (k := Sum.inl (old : Int)) (n2 _ _ e11) ?_, ?_⟩
                    · rw [List.length_map, List.length_append]
                      have z := kkl
                      rw [List.length_map] at z
                      rw [z]
                      show kk' + 1 < sizeLine
                      rw [sizeLine_eq]
                      omega
                    rw [refK_put (by rw [ek2]; exact List.mem_range.mpr (by omega))]
                    have e13 : upd H12 dm (.dK (refK ((es' ++ [(kk', l)]).map fun e => if e.1 = old then (old, D9) else e))) dm = some (.dK (refK ((es' ++ [(kk', l)]).map fun e => if e.1 = old then (old, D9) else e))) := upd_same
                    have k13 : ∀ b u, b ≠ dm → H12 b = some u → upd H12 dm (.dK (refK ((es' ++ [(kk', l)]).map fun e => if e.1 = old then (old, D9) else e))) b = some u := fun b u n e => by rw [upd_ne n]; exact e
                    generalize upd H12 dm (.dK (refK ((es' ++ [(kk', l)]).map fun e => if e.1 = old then (old, D9) else e))) = H13 at e13 k13 ⊢
                    have lw13 := k13 _ _ hlwdm (n2 _ _ lw11)
                    have hw' := wi9.ms
                    refine ⟨_, rfl, .inl ⟨rfl, _, SqL.of lw13⟩, _, rfl, lw, _, _, rfl, rfl, lw13, by rw [List.length_map, sizeLine_eq]; omega, ?_⟩
                    have keep : ∀ b u, b ≠ C → b ≠ dm → b ≠ lw → H9 b = some u → upd H13 lw (.lst (W'.map nI ++ [nI kk'])) b = some u := fun b u h1 h2 h3 e => by
                      rw [upd_ne h3]
                      exact k13 _ _ h2 (n2 _ _ (k11 _ _ h2 (g2 _ _ h1 e)))
                    have spl : ∀ x, x < rows.length → clsOf (setAll rows.length cs' part kk') x = Hop.split (clsOf cs') part kk' x := fun x hx => setAll_cls hx
                    obtain ⟨p0, q0, p1, p2, p3, p4, p5⟩ := two
                    have pl := Hop.pairs_split fresh pcl p1 p2 p3 p4 p5
                    have pe := Hop.pairs_congr spl
                    have ci14 : CI Hs (upd H13 lw (.lst (W'.map nI ++ [nI kk']))) C lw dm rows.length (setAll rows.length cs' part kk') ((es' ++ [(kk', l)]).map fun e => if e.1 = old then (old, D9) else e) (kk' + 1) := by
                      refine ⟨fun b u e => keep b u (ne_of_none e hCS) (ne_of_none e hdS) (ne_of_none e hlwS) (wi9.ci.same b u e), ?_, by unfold setAll; simp, ?_, by rw [keys_put, ek2], fun p hp => ?_, fun x hx => ?_⟩
                      · rw [upd_ne hClw]
                        exact k13 _ _ hCdm (n2 _ _ c11)
                      · rw [upd_ne hlwdm.symm]
                        exact e13
                      · obtain ⟨e, he, rfl⟩ := List.mem_map.mp hp
                        by_cases ce : e.1 = old
                        · rw [if_pos ce]
                          refine ⟨D9C, D9lw, (ms0.filter fun x => Hop.split (clsOf cs') part kk' x == old), ?_, List.Pairwise.filter _ msn, fun x => ?_⟩
                          · rw [upd_ne D9lw]
                            exact k13 _ _ D9dm n1
                          · rw [List.mem_filter, beq_iff_eq, msm x]
                            constructor
                            · rintro ⟨⟨h1, h2⟩, h3⟩
                              exact ⟨h1, (spl x h1).trans h3⟩
                            · rintro ⟨h1, h2⟩
                              rw [spl x h1] at h2
                              refine ⟨⟨h1, ?_⟩, h2⟩
                              unfold Hop.split at h2
                              by_cases cp : x ∈ part
                              · exact pcl x cp
                              · rw [if_neg cp] at h2
                                exact h2
                        · rw [if_neg ce]
                          rcases List.mem_append.mp he with he | he
                          · obtain ⟨h1, h2, ms, h3, h4, h5⟩ := wi9.ci.mem e he
                            have elt : e.1 < kk' := by
                              have z : e.1 ∈ es'.map (·.1) := List.mem_map.mpr ⟨e, he, rfl⟩
                              rw [wi9.ci.ek] at z
                              exact List.mem_range.mp z
                            refine ⟨h1, h2, ms, keep _ _ h1 (ne_of h3 wi9.ci.dt (by intro z; cases z)) h2 h3, h4, fun x => (h5 x).trans ?_⟩
                            constructor
                            · rintro ⟨g, g'⟩
                              refine ⟨g, ?_⟩
                              rw [spl x g]
                              unfold Hop.split
                              rw [if_neg fun cp => ce (g'.symm.trans (pcl x cp))]
                              exact g'
                            · rintro ⟨g, g'⟩
                              refine ⟨g, ?_⟩
                              rw [spl x g] at g'
                              unfold Hop.split at g'
                              by_cases cp : x ∈ part
                              · rw [if_pos cp] at g'
                                omega
                              · rw [if_neg cp] at g'
                                exact g'
                          · rw [List.mem_singleton.mp he]
                            refine ⟨lC, llw, part, keep _ _ lC ldm llw hpart, pnd, fun x => ?_⟩
                            constructor
                            · intro hx
                              refine ⟨plt x hx, ?_⟩
                              rw [spl x (plt x hx)]
                              unfold Hop.split
                              rw [if_pos hx]
                            · rintro ⟨g, g'⟩
                              rw [spl x g] at g'
                              unfold Hop.split at g'
                              by_cases cp : x ∈ part
                              · exact cp
                              · rw [if_neg cp] at g'
                                exact absurd g' (fresh x g)
                      · rw [spl x hx]
                        unfold Hop.split
                        split
                        · omega
                        · have := wi9.ci.lt x hx
                          omega
                    refine ⟨setAll rows.length cs' part kk', _, kk' + 1, W' ++ [kk'], _, _, _, _, _, rfl, ⟨ci14, ?_, fun c hc => ?_, ?_, ?_, ?_⟩, ?_, ?_, keep _ _ li1 (ne_of hli9 wi9.ci.dt (by intro z; cases z)) li2 hli9, keep _ _ dC.symm ddm.symm dlw.symm frz9, fun p hp => keep _ _ (hpl p hp).2.1 (ne_of (hit9 p hp) wi9.ci.dt (by intro z; cases z)) (hpl p hp).2.2 (hit9 p hp)⟩
                    · rw [upd_same, List.map_append]; rfl
                    · rcases List.mem_append.mp hc with hc | hc
                      · have := wi9.wk c hc
                        omega
                      · rw [List.mem_singleton.mp hc]; omega
                    · refine Hop.Ref.congr spl (wi9.rf.split fresh pcl fun R r1 r2 p q' hp hq h => ?_)
                      have ec := wi2.rf.mx R r1 r2 p q' hp hq h
                      have ei := insR R r1 r2 _ _ (hd' a p ha hp) (hd' a q' ha hq) (r2 p q' h a ha)
                      have ehl : p ∈ hlist ↔ q' ∈ hlist := by
                        rw [hlm p, hlm q', ec]
                        exact ⟨fun z => ⟨⟨hq, ei.mp z.1.2⟩, z.2⟩, fun z => ⟨⟨hp, ei.mpr z.1.2⟩, z.2⟩⟩
                      rcases hor with e | e
                      · rw [e]; exact ehl
                      · rw [e, List.mem_filter, List.mem_filter, msm' p, msm' q', ec]
                        simp only [Bool.not_eq_true', decide_eq_false_iff_not]
                        exact ⟨fun z => ⟨⟨hq, z.1.2⟩, fun y => z.2 (ehl.mpr y)⟩, fun z => ⟨⟨hp, z.1.2⟩, fun y => z.2 (ehl.mp y)⟩⟩
                    · rw [pe, List.length_append]
                      show _ + (W'.length + 1) ≤ _
                      omega
                    · rw [pe]
                      have := wi9.kb
                      omega
                    · exact Hop.Jn.congr hd' spl (jn6.split hd' fresh pcl (fun c hc => List.mem_append_left _ hc) (List.mem_append_right _ (List.mem_singleton.mpr rfl)))
                    · exact Hop.Mid.congr spl (mid.split fresh hn plt pcl0 pcl phh)
              · have hge' : ms0.length ≤ hlist.length := by
                  have z : ¬ ((hlist.length : Int) < (ms0.length : Int)) := fun z => hge (decide_eq_true z)
                  omega
                have all := sub_all hlist ms0 hlnd hsub hge'
                exact ⟨cs', es', kk', W', _, _, _, v12, v13, rfl, wi7, jn6, mid.all fun x hx e => ((hlm x).mp (all x ((msm' x).mpr ⟨hx, e⟩))).1.2, hli7, frz7, hit7⟩
            · rintro σ H6 ⟨cs', es', kk', W', v4, v10, v11, v12, v13, rfl, wi6, jn6, mid, hli6, frz6, hit6⟩
              rw [List.length_map, List.take_length] at mid
              refine ⟨frz6, cs', es', kk', W', v4, some (.ref l), some (.ref d), v10, v11, v12, v13, rfl, ?_, ?_, by rw [upd_ne dli]; exact hli6⟩
              · exact wi6.upd (x := d) (.dK (refK hs)) hdS' dC.symm ddm.symm (fun p hp => by obtain ⟨_, _, ms, m3, _⟩ := wi6.ci.mem p hp; exact ne_of m3 frz6 (by intro z; cases z)) dlw.symm
              · refine jn6.drop (a0 := a) (fun a' h1 h2 => ⟨by omega, h1.2⟩) fun p q' hp hq e => ?_
                by_cases c : clsOf cs p ∈ hs.map (·.1)
                · exact mid.dn p q' hp hq e c
                · have no : ∀ y, y < rows.length → clsOf cs y = clsOf cs p → ¬ nextOf rows a y ∈ ins := fun y hy ey hh => by
                    obtain ⟨t, ht⟩ := hits.all y (mem_hit.mpr ⟨hy, hh⟩)
                    exact c (List.mem_map.mpr ⟨_, ht, ey⟩)
                  exact iff_of_false (no p hp rfl) (no q' hq (mid.ref p q' hp hq e).symm)
          · rintro σ H2 ⟨cs, es, kk, W, v4, v8, v9, v10, v11, v12, v13, rfl, wi2, jn2, hli2⟩
            rw [List.length_map, z2] at jn2
            refine ⟨cs, es, kk, W, v4, _, v8, v9, v10, v11, v12, v13, rfl, wi2, fun p q' a hp hq ha e ne => ?_⟩
            rcases jn2 p q' a hp hq ha e ne with h | h | h
            · exact .inl h
            · exact .inr (.inl h)
            · exact absurd h.1.2 (by omega)
end
end Vf

set_option Elab.async false
set_option linter.all false
set_option maxRecDepth 100000
set_option maxHeartbeats 4000000
namespace Vf
open PySem PySem.Spec PyProof.Rows L2 L2.Vx Vs
/-! ### the machine of the classes -/
def isFirst (cs : List Nat) (x : Nat) : Bool := (List.range x).all fun y => clsOf cs y != clsOf cs x
def firstsTo (cs : List Nat) (i : Nat) : List Nat := (List.range i).filter (isFirst cs)
abbrev firstsOf (cs : List Nat) : List Nat := firstsTo cs cs.length
abbrev keysOf (cs : List Nat) (i : Nat) : List Nat := (firstsTo cs i).map (clsOf cs)
def numOf (cs : List Nat) (x : Nat) : Nat := (keysOf cs cs.length).idxOf (clsOf cs x)
def quotRows (rows : List (List Nat)) (cs : List Nat) : List (List Nat) := (firstsOf cs).map fun s => (rowOf rows s).map fun t => numOf cs t
theorem firstsTo_succ (cs : List Nat) (i : Nat) : firstsTo cs (i + 1) = if isFirst cs i = true then firstsTo cs i ++ [i] else firstsTo cs i := by
  unfold firstsTo
  rw [List.range_succ, List.filter_append, List.filter_cons]
  split
  · rfl
  · rw [List.filter_nil, List.append_nil]
theorem first_has (cs : List Nat) (i : Nat) : ∀ y, y < i → ∃ x ∈ firstsTo cs i, clsOf cs x = clsOf cs y ∧ x ≤ y := by
  intro y
  induction y using Nat.strongRecOn with
  | ind y ih =>
    intro hy
    by_cases c : isFirst cs y = true
    · exact ⟨y, List.mem_filter.mpr ⟨List.mem_range.mpr hy, c⟩, rfl, Nat.le_refl _⟩
    · have c' : ¬ ∀ z ∈ List.range y, (clsOf cs z != clsOf cs y) = true := fun h => c (List.all_eq_true.mpr h)
      obtain ⟨z, hz, e⟩ : ∃ z, z < y ∧ clsOf cs z = clsOf cs y := Classical.byContradiction fun h => c' fun z hz => by
        rw [bne_iff_ne]
        exact fun e => h ⟨z, List.mem_range.mp hz, e⟩
      obtain ⟨x, h1, h2, h3⟩ := ih z hz (by omega)
      exact ⟨x, h1, h2.trans e, by omega⟩
theorem isFirst_iff (cs : List Nat) (i : Nat) : isFirst cs i = !decide (clsOf cs i ∈ keysOf cs i) := by
  by_cases c : clsOf cs i ∈ keysOf cs i
  · rw [decide_eq_true c]
    obtain ⟨x, hx, e⟩ := List.mem_map.mp c
    have hx' := List.mem_range.mp (List.mem_filter.mp hx).1
    cases h : isFirst cs i with
    | false => rfl
    | true =>
      have z := List.all_eq_true.mp h x (List.mem_range.mpr hx')
      rw [e] at z
      simp at z
  · rw [decide_eq_false c]
    refine List.all_eq_true.mpr fun y hy => ?_
    rw [bne_iff_ne]
    intro e
    obtain ⟨x, h1, h2, _⟩ := first_has cs i y (List.mem_range.mp hy)
    exact c (List.mem_map.mpr ⟨x, h1, h2.trans e⟩)
theorem keys_nodup (cs : List Nat) : ∀ i, (keysOf cs i).Nodup
  | 0 => List.nodup_nil
  | i + 1 => by
    unfold keysOf
    rw [firstsTo_succ]
    split
    · rename_i h
      rw [isFirst_iff] at h
      have h' : clsOf cs i ∉ keysOf cs i := by simpa using h
      rw [List.map_append]
      exact List.nodup_append.mpr ⟨keys_nodup cs i, by simp, fun a ha b hb e => h' (by rw [List.mem_map] at hb; obtain ⟨z, hz, rfl⟩ := hb; rw [List.mem_singleton.mp hz] at e; rw [← e]; exact ha)⟩
    · exact keys_nodup cs i
theorem numK_snoc (o : List Nat) (c : Nat) : numK (o ++ [c]) = numK o ++ [((Sum.inl ((c : Nat) : Int) : Key), nI o.length)] := by
  unfold numK
  rw [List.length_append]
  show (List.range (o.length + 1)).map _ = _
  rw [List.range_succ, List.map_append]
  congr 1
  · refine List.map_congr_left fun i hi => ?_
    have hi' := List.mem_range.mp hi
    rw [List.getD_eq_getElem?_getD, List.getD_eq_getElem?_getD, List.getElem?_append_left hi']
  · show [((Sum.inl ((((o ++ [c]).getD o.length 0 : Nat)) : Int) : Key), nI o.length)] = _
    rw [List.getD_eq_getElem?_getD, List.getElem?_append_right (Nat.le_refl _)]
    simp
theorem num_none {o : List Nat} {t : Nat} (h : t ∉ o) : valV (numK o) (Sum.inl (t : Int)) = none :=
  valV_none (keyAt o) (fun i => nI i) _ (List.range o.length) fun i hi e => by
    have hi' := List.mem_range.mp hi
    have z := Sum.inl.inj e
    have z2 : o.getD i 0 = t := by omega
    exact h (z2 ▸ List.mem_of_getElem? (getD_at hi'))
abbrev sLeast : Stmt := top 18
def spLeast (K : PySem.W.Frag) : Sp := fun vs H Q _ => ∃ (v e : V) (rows : List (List Nat)) (ends : List Nat) (k : Nat), vs = [v, e] ∧ RowsAt K H v rows ∧ TupN K H e ends ∧ Square rows k ∧ (∀ x ∈ ends, x < rows.length) ∧
  ∀ t a b cs H', Same H H' → H t = none → H' t = some (.tup [a, b]) → cs.length = (renum rows (reach rows 0)).length →
    Hop.Ref (renum rows (reach rows 0)).length k (nextOf (renum rows (reach rows 0))) (fun x => x ∈ endsAt (reach rows 0) ends) (clsOf cs) →
    (∀ p q a, p < (renum rows (reach rows 0)).length → q < (renum rows (reach rows 0)).length → a < k → clsOf cs p = clsOf cs q → clsOf cs (nextOf (renum rows (reach rows 0)) a p) = clsOf cs (nextOf (renum rows (reach rows 0)) a q)) →
    RowsAt K H' a (quotRows (renum rows (reach rows 0)) cs) → TupN K H' b (endsAt (firstsOf cs) (endsAt (reach rows 0) ends)) → Q (.ref t) H'
theorem renum_square {rows : List (List Nat)} {k : Nat} (sq : Square rows k) : Square (renum rows (reach rows 0)) k := by
  have R := reached sq.inn sq.some
  have lo : (reach rows 0).length ≤ rows.length := nodup_lt _ _ R.nd R.lt
  have l1 : (renum rows (reach rows 0)).length = (reach rows 0).length := List.length_map _
  refine ⟨?_, ?_, fun r hr => ?_, sq.thin, fun r hr t ht => ?_⟩
  · rw [l1]
    exact (List.getElem?_eq_some_iff.mp R.first).1
  · rw [l1]
    exact Nat.le_trans lo sq.few
  · obtain ⟨s, hs, rfl⟩ := List.mem_map.mp hr
    rw [List.length_map]
    exact sq.wide _ (List.mem_of_getElem? (rowOf_at (R.lt s hs)))
  · obtain ⟨s, hs, rfl⟩ := List.mem_map.mp hr
    obtain ⟨u, hu, rfl⟩ := List.mem_map.mp ht
    rw [l1]
    exact List.idxOf_lt_length_of_mem (R.closed s hs u hu)
section
variable {P : Program} {w : World} {K : PySem.W.Frag} {mg : Str → Option Value} {base : Heap}
abbrev nLeast : List Str := ["rows", "ends", "classes", "numbers", "firsts", "state", "found", "flags", "new_rows", "target", "number"]
abbrev scIn2 : Scope := { kind := .function, names := [(".0", .local), ("state", .local), ("tuple", .globalImplicit), ("classes", .cell), ("numbers", .cell), ("rows", .cell)], isGenerator := false, isCoroutine := false, more := [] }
theorem scLeast : FnScope nLeast ["rows", "ends"] (defScope sLeast) := ⟨rfl, rfl, rfl, by decide +kernel, rfl, by decide +kernel, by decide +kernel⟩
theorem ok_least {f fF fT fC : Addr} {fd fdF fdT fdC : FuncData} (F : Fun K "least_machine" "least_machine" sLeast f fd) (T : TxtM mg)
    (GF : FnOk P w K mg base CX0 1 fF fdF ["many", "ends"] (spFlags K)) (bF : Binds K fdF ["many", "ends"] []) (kF : PySem.W.keepIn K (.ref fF) = true) (mF : mg "end_flags" = some (.ref fF))
    (GT : FnOk P w K mg base CX0 2 fT fdT ["rows", "ends", "start"] (spStarted K)) (bT : Binds K fdT ["rows", "ends", "start"] []) (kT : PySem.W.keepIn K (.ref fT) = true) (mT : mg "started_at" = some (.ref fT))
    (GC : FnOk P w K mg base CX0 2 fC fdC ["rows", "ends"] (spCls K)) (bC : Binds K fdC ["rows", "ends"] []) (kC : PySem.W.keepIn K (.ref fC) = true) (mC : mg "classes_of" = some (.ref fC)) :
    FnOk P w K mg base CX0 3 f fd ["rows", "ends"] (spLeast K) := by
  refine F.ok scLeast (fun vs H Q E h => ?_) (fun cdv A outer s H vs Q E hr h => ?_)
  · obtain ⟨v, e, rows, ends, k, rfl, _⟩ := h
    rfl
  obtain ⟨v, e, rows, ends, k, rfl, hR, hE, sq, hel, q⟩ := h
  have hu := hu_of hr
  have hr1 : Room 1 _ := hr.mono (by decide)
  refine ⟨_, pss_cons (ps_asg (pe_call GT hr rfl mT kT bT .nil pass0 (pa_cons (pv 0) (pa_cons (pv 1) (pa_cons pe_int pa_nil)))) (pg_tup rfl (pgs_cons (pg_name (i := 0) scLeast.nd rfl (Or.inr rfl)) (pgs_cons (pg_name (i := 1) scLeast.nd rfl (Or.inl rfl)) pgs_nil))))
    (pss_cons (ps_set (i := 2) scLeast.nd rfl (Or.inr rfl) (pe_call GC hr rfl mC kC bC .nil pass0 (pa_cons (pv 0) (pa_cons (pv 1) pa_nil))))
    (pss_cons (ps_set (i := 3) scLeast.nd rfl (Or.inr rfl) pe_dnewK)
    (pss_cons (ps_set (i := 4) scLeast.nd rfl (Or.inl rfl) (pe_lst pa_nil))
    (pss_cons (ps_for PassesOwn.never rfl (pi_enum (by rfl) T.enu (pa_cons (pv 2) pa_nil)) (pg_tup rfl (pgs_cons (pg_name (i := 5) scLeast.nd rfl (Or.inl rfl)) (pgs_cons (pg_name (i := 6) scLeast.nd rfl (Or.inl rfl)) pgs_nil)))
      (pss_one (ps_if (pt_cmp (pc_dnotin hu (pv 6) (pv 3))) (pss_cons (ps_dput hu (pv 3) (pv 6) (pe_callB call_len_seq (by rfl) T.len PySem.boot_len (pa_cons (pv 4) pa_nil)) rfl)
        (pss_one (ps_expr (pe_bm PySem.F.plainAttrs_list PySem.F.slot_list_append PySem.F.type_list_append mt_append (pv 4) (pa_cons (pv 5) pa_nil))))) pss_nil)))
    (pss_cons (ps_set (i := 7) scLeast.nd rfl (Or.inr rfl) (pe_call GF hr1 rfl mF kF bF .nil pass0 (pa_cons (pe_callB call_len_seq (by rfl) T.len PySem.boot_len (pa_cons (pv 0) pa_nil)) (pa_cons (pv 1) pa_nil))))
    (pss_cons (ps_set (i := 8) scLeast.nd rfl (Or.inl rfl) (pe_callTy call_tuple_of (by rfl) T.tuple (by decide +kernel) (pa_cons (pe_lc (own := [("state", 5)]) (g := gName 5) (tt := tYes) rfl scLeast.nd (pi_list (pv 4))
        (blkOk_by (N := nLeast) (sc := defScope sLeast) (by decide +kernel)) (fun _ _ _ _ _ => pg_name (i := 5) scLeast.nd rfl (Or.inl rfl)) (fun _ _ _ _ _ => pts_nil)
        (fun _ _ _ _ _ => by exact pe_callTy (tupOf_at (K := K) rfl) (by rfl) T.tuple (by decide +kernel) (pa_cons (pe_lc (own := [("target", 9)]) (g := gName 9) (tt := tYes) rfl scLeast.nd (piT_at (K := K) rfl (pe_ix (ixT_at (K := K) rfl) (pv 0) (pv 5) (fun _ _ => rfl)))
          (blkOk_by (N := nLeast) (sc := scIn2) (by decide +kernel)) (fun _ _ _ _ _ => pg_name (i := 9) scLeast.nd rfl (Or.inl rfl)) (fun _ _ _ _ _ => pts_nil)
          (fun _ _ _ _ _ => by exact pe_dget hu (pv 3) (pe_ix (ixL_at (K := K) rfl) (pv 2) (pv 9) (fun _ _ => rfl)) (fun _ _ => rfl))) pa_nil))) pa_nil)))
    (pss_one (ps_ret (pe_tup (pa_cons (pv 8) (pa_cons (pe_callTy call_tuple_of (by rfl) T.tuple (by decide +kernel) (pa_cons (pe_lc (own := [("number", 10), ("state", 5)]) (g := gTup K 2 (gCons (gName 10) (gCons (gName 5) gNil))) rfl scLeast.nd (pi_enum (by rfl) T.enu (pa_cons (pv 4) pa_nil))
        (blkOk_by (N := nLeast) (sc := defScope sLeast) (by decide +kernel)) (fun _ _ _ _ _ => by exact (pg_tup rfl (pgs_cons (pg_name (i := 10) scLeast.nd rfl (Or.inl rfl)) (pgs_cons (pg_name (i := 5) scLeast.nd rfl (Or.inl rfl)) pgs_nil))))
        (fun _ _ _ _ _ => by exact pts_one (pt_val (pe_ix (ixL_at (K := K) rfl) (pv 7) (pv 5) (fun _ _ => rfl)))) (fun _ _ _ _ _ => by exact pv 10)) pa_nil)) pa_nil))))))))))), ?_⟩
  have sq1 := renum_square sq
  have l1 : (renum rows (reach rows 0)).length = (reach rows 0).length := List.length_map _
  have hel1 : ∀ x ∈ endsAt (reach rows 0) ends, x < (renum rows (reach rows 0)).length := fun x hx => by
    rw [l1]
    exact List.mem_range.mp (List.mem_filter.mp hx).1
  have end1 : (endsAt (reach rows 0) ends).Nodup := List.Pairwise.filter _ List.nodup_range
  have thin := sq.thin
  refine ⟨_, rfl, _, rfl, v, e, rows, ends, 0, rfl, hR, hE, sq.inn, hel, sq.some, sq.few, fun r hr => by rw [sq.wide r hr]; omega, fun t0 a1 b1 H1 s1 ht0 e1 hR1 hE1 => ?_⟩
  generalize renum rows (reach rows 0) = rows1 at *
  generalize endsAt (reach rows 0) ends = ends1 at *
  refine ⟨t0, _, rfl, SqT.of e1, rfl, _, _, rfl, _, _, rfl, rfl, ?_⟩
  refine ⟨_, rfl, _, rfl, a1, b1, rows1, ends1, k, rfl, hR1, hE1, sq1, hel1, end1, fun lc cs H2 s2 hlc ec cn rf stable => ?_⟩
  have few1 := sq1.few
  intro dn hdn
  have sd := same_new hdn (.dK [])
  have ed : upd H2 dn (.dK []) dn = some (.dK []) := upd_same
  show gName 3 _ _ (upd H2 dn (.dK [])) _
  generalize upd H2 dn (.dK []) = H3 at sd ed ⊢
  refine ⟨Nat.zero_le _, fun lf hlf => ?_⟩
  have sf := same_new hlf (.lst [])
  have ef : upd H3 lf (.lst []) lf = some (.lst []) := upd_same
  have ed' := sf _ _ ed
  have hlfH : H2 lf = none := sd.free hlf
  have hdlf : dn ≠ lf := ne_of_none ed hlf
  have s3 := sd.trans sf
  show gName 4 _ _ (upd H3 lf (.lst [])) _
  generalize upd H3 lf (.lst []) = H4 at ef ed' s3 ⊢
  clear sd sf ed
  have kd := fun i => keys_nodup cs i
  have kl : ∀ i, (keysOf cs i).length = (firstsTo cs i).length := fun i => List.length_map _
  have fl : ∀ i, (firstsTo cs i).length ≤ i := fun i => by
    unfold firstsTo
    have z := List.length_filter_le (isFirst cs) (List.range i)
    rw [List.length_range] at z
    exact z
  have hs : ∀ (o : List Nat) (t : Nat), o.Nodup → (valV (numK o) (Sum.inl (t : Int))).isSome = decide (t ∈ o) := fun o t nd => by
    by_cases c : t ∈ o
    · rw [num_at nd c, decide_eq_true c]; rfl
    · rw [num_none c, decide_eq_false c]; rfl
  refine ⟨_, rfl, lc, _, rfl, SqL.of (s3 _ _ ec), ?_⟩
  refine for_it (walk_enum (xs := cs.map nI)) (fun i σ H' => ∃ v5 v6 : Option V, σ = [some a1, some b1, some (.ref lc), some (.ref dn), some (.ref lf), v5, v6, none, none, none, none] ∧ H' dn = some (.dK (numK (keysOf cs i))) ∧ H' lf = some (.lst ((firstsTo cs i).map nI)) ∧ Same H2 H')
    ⟨none, none, rfl, ed', ef, s3⟩ (fun i σ H' _ ⟨_, _, _, _, _, s⟩ => s.seq (SqL.of ec)) ?_ ?_
  · rintro i x σ H5 H6 hi ⟨v5, v6, rfl, k1, k2, k3⟩ ⟨T1, x1, y1, rfl, hT, rfl, e1', e2⟩
    obtain rfl : V.int (i : Nat) = x1 := Option.some.inj e1'
    rw [List.length_map] at hi
    have e2' : some (nI (clsOf cs i)) = some y1 := by
      have z : (cs.map nI)[i]? = some y1 := e2
      rw [List.getElem?_map, getD_at hi] at z
      exact z
    obtain rfl : nI (clsOf cs i) = y1 := Option.some.inj e2'
    have sT := same_new hT (.tup [V.int (i : Nat), nI (clsOf cs i)])
    refine ⟨T1, _, rfl, SqT.of upd_same, rfl, _, _, rfl, _, _, rfl, rfl, ?_⟩
    have k1' := sT _ _ k1
    have k2' := sT _ _ k2
    have k3' := k3.trans sT
    show tIfS _ _ _ _ _ (upd H5 T1 (.tup [V.int (i : Nat), nI (clsOf cs i)]))
    generalize upd H5 T1 (.tup [V.int (i : Nat), nI (clsOf cs i)]) = H7 at k1' k2' k3' ⊢
    refine ⟨_, rfl, _, rfl, dn, _, rfl, DGet.k (k := Sum.inl (clsOf cs i : Int)) k1', _, rfl, ?_⟩
    rw [hs _ _ (kd i)]
    have big : (firstsTo cs i).length < sizeLine := Nat.lt_of_le_of_lt (fl i) (by rw [cn] at hi; exact Nat.lt_of_lt_of_le hi (Nat.le_trans few1 (by decide)))
    by_cases c : clsOf cs i ∈ keysOf cs i
    · rw [decide_eq_true c]
      have hf : isFirst cs i = false := by rw [isFirst_iff, decide_eq_true c]; rfl
      have n1 : firstsTo cs (i + 1) = firstsTo cs i := by rw [firstsTo_succ, if_neg (by rw [hf]; exact Bool.false_ne_true)]
      refine ⟨_, _, rfl, ?_, ?_, k3'⟩
      · unfold keysOf
        rw [n1]
        exact k1'
      · rw [n1]
        exact k2'
    · rw [decide_eq_false c]
      have hf : isFirst cs i = true := by rw [isFirst_iff, decide_eq_false c]; rfl
      have n1 : firstsTo cs (i + 1) = firstsTo cs i ++ [i] := by rw [firstsTo_succ, if_pos hf]
      refine ⟨_, rfl, lf, _, rfl, .inl (SqL.of k2'), _, rfl, _, rfl, dn, _, rfl, DPut.k (k := Sum.inl (clsOf cs i : Int)) k1' (by unfold numK; rw [List.length_map, List.length_range, kl]; exact big), ?_⟩
      rw [putK_new _ (num_none c), List.length_map]
      have k2'' : upd H7 dn (.dK (numK (keysOf cs i) ++ [((Sum.inl ((clsOf cs i : Nat) : Int) : Key), V.int ((firstsTo cs i).length : Int))])) lf = some (.lst ((firstsTo cs i).map nI)) := by rw [upd_ne hdlf.symm]; exact k2'
      refine ⟨_, rfl, .inl ⟨rfl, _, SqL.of k2''⟩, _, rfl, lf, _, _, rfl, rfl, k2'', by rw [List.length_map]; exact big, _, _, rfl, ?_, ?_, fun b u e' => ?_⟩
      · rw [upd_ne hdlf, upd_same]
        unfold keysOf
        rw [n1, List.map_append, List.map_cons, List.map_nil, numK_snoc, ← kl i]
      · rw [upd_same, n1, List.map_append]
        rfl
      · rw [upd_ne (ne_of_none e' hlfH), upd_ne (ne_of_none e' hdn)]
        exact k3' b u e'
  · rintro σ H5 ⟨v5, v6, rfl, k1, k2, k3⟩
    rw [List.length_map] at k1 k2
    have s5 : Same H1 H5 := s2.trans k3
    have hR5 := hR1.same s5
    have hE5 := hE1.same s5
    have elc := k3 _ _ ec
    obtain ⟨va, bs, rfl, hva, hbl, hrows⟩ := id hR5
    have fn : ∀ x ∈ firstsOf cs, x < rows1.length := fun x hx => by
      rw [← cn]
      exact List.mem_range.mp (List.mem_filter.mp hx).1
    have keym : ∀ t, t < rows1.length → clsOf cs t ∈ keysOf cs cs.length := fun t ht => by
      obtain ⟨x, h1, h2, _⟩ := first_has cs cs.length t (by rw [cn]; exact ht)
      exact List.mem_map.mpr ⟨x, h1, h2⟩
    have item : ∀ {i : Nat} {y : V}, ((firstsOf cs).map nI)[i]? = some y → ∃ h : i < (firstsOf cs).length, y = nI ((firstsOf cs).getD i 0) := fun {i y} e => by
      rw [List.getElem?_map] at e
      obtain ⟨t, ht, rfl⟩ := Option.map_eq_some_iff.mp e
      have hi := (List.getElem?_eq_some_iff.mp ht).1
      rw [getD_at hi] at ht
      exact ⟨hi, by rw [Option.some.inj ht]⟩
    have lo2 : (firstsOf cs).length < sizeLine := Nat.lt_of_le_of_lt (fl _) (by rw [cn]; exact Nat.lt_of_le_of_lt few1 (by decide))
    refine ⟨_, rfl, va, _, rfl, .inr hva, _, rfl, rows1.length, b1, ends1, by rw [hbl]; rfl, hE5, hel1, by omega, fun lg H6 s6 hlg g6 => ?_⟩
    have hR6 := hR5.same s6
    have kD := s6 _ _ k1
    have gl := s6 _ _ k2
    have elc6 := s6 _ _ elc
    refine ⟨_, rfl, lf, rfl, ⟨_, SqL.of gl⟩, fun D2 hD2 => ?_⟩
    have lr : (quotRows rows1 cs).length = (firstsOf cs).length := List.length_map _
    have getR : ∀ i, i < (firstsOf cs).length → (quotRows rows1 cs).getD i [] = (rowOf rows1 ((firstsOf cs).getD i 0)).map fun t => numOf cs t := fun i hi => by
      rw [List.getD_eq_getElem?_getD, show (quotRows rows1 cs)[i]? = some ((rowOf rows1 ((firstsOf cs).getD i 0)).map fun t => numOf cs t) by unfold quotRows; rw [List.getElem?_map, getD_at hi]; rfl]
      rfl
    refine lc_it (walk_list (xs := (firstsOf cs).map nI)) (fun i H' => ∃ ts : List Addr, H' D2 = some (.lst (ts.map V.ref)) ∧ ts.length = i ∧ (∀ (j : Nat) (t : Addr), ts[j]? = some t → H' t = some (.tup (((quotRows rows1 cs).getD j []).map nI))) ∧ Same H6 H')
      ⟨[], upd_same, rfl, (fun j t z => nomatch z), same_new hD2 _⟩ (fun i H' _ ⟨_, _, _, _, s⟩ => s.seq (SqL.of gl)) ?_ ?_
    · rintro i x H7 H8 hi ⟨ts, m1, m2, m3, m4⟩ ⟨rfl, hx⟩
      obtain ⟨hio, rfl⟩ := item hx
      have hmem : (firstsOf cs).getD i 0 ∈ firstsOf cs := List.mem_of_getElem? (getD_at hio)
      have hst := fn _ hmem
      obtain ⟨a', bs', b, ea, ha', hbs', hrow⟩ := hR6.row hst
      cases ea
      have hwid : (rowOf rows1 ((firstsOf cs).getD i 0)).length ≤ 1000 := by
        rw [sq1.wide _ (List.mem_of_getElem? (rowOf_at hst))]
        omega
      refine ⟨rfl, _, rfl, _, rfl, va, bs', _, .ref b, rfl, rfl, same_T m4 ha', atI_nat hbs', b, rfl, ⟨_, same_T m4 hrow⟩, fun D3 hD3 => ?_⟩
      refine lc_it (walk_tup (xs := (rowOf rows1 ((firstsOf cs).getD i 0)).map nI)) (fun j H' => H' D3 = some (.lst (((rowOf rows1 ((firstsOf cs).getD i 0)).take j).map fun t => nI (numOf cs t))) ∧ Same H8 H') ⟨upd_same, same_new hD3 _⟩ (fun j H' _ ⟨_, s⟩ => same_T s (same_T m4 hrow)) ?_ ?_
      · rintro j y H9 H10 hj ⟨n1, n2⟩ ⟨rfl, hy⟩
        rw [List.getElem?_map] at hy
        obtain ⟨t, ht, rfl⟩ := Option.map_eq_some_iff.mp hy
        have htn := rowOf_mem sq1.inn t (List.mem_of_getElem? ht)
        have hct : cs[t]? = some (clsOf cs t) := getD_at (by rw [cn]; exact htn)
        refine ⟨rfl, _, rfl, _, rfl, _, rfl, lc, _, _, nI (clsOf cs t), rfl, rfl, SqL.of (n2 _ _ (m4 _ _ elc6)), atI_nat (by rw [List.getElem?_map, hct]; rfl), dn, nI (numOf cs t), rfl, ?_, _, n1, ?_, ?_, fun b' u e' => ?_⟩
        · have z := num_at (kd cs.length) (keym t htn)
          unfold numOf
          rw [← z]
          exact DGet.k (k := Sum.inl (clsOf cs t : Int)) (n2 _ _ (m4 _ _ kD))
        · rw [List.length_map]
          exact Nat.lt_of_le_of_lt (List.length_take_le' _ _) (Nat.lt_of_le_of_lt hwid (by decide))
        · rw [upd_same, List.take_add_one, ht, List.map_append]
          rfl
        · rw [upd_ne (ne_of_none e' hD3)]
          exact n2 b' u e'
      · rintro H9 ⟨n1, n2⟩
        rw [List.length_map, List.take_length] at n1
        refine ⟨D3, _, rfl, .inl ⟨SqL.of n1, fun t ht => ?_⟩⟩
        have sT := same_new ht (.tup ((rowOf rows1 ((firstsOf cs).getD i 0)).map fun t => nI (numOf cs t)))
        have hD26 : H9 D2 = some (.lst (ts.map V.ref)) := n2 _ _ m1
        refine ⟨_, sT _ _ hD26, by rw [List.length_map, m2]; omega, ts ++ [t], by rw [upd_same, List.map_append]; rfl, by rw [List.length_append, m2]; rfl, fun j u hj => ?_, fun b' u e' => ?_⟩
        · rcases Nat.lt_or_ge j ts.length with c | c
          · rw [List.getElem?_append_left c] at hj
            have z := sT _ _ (n2 _ _ (m3 j u hj))
            rw [upd_ne (ne_of z (sT _ _ hD26) (by intro z; cases z))]
            exact z
          · rw [List.getElem?_append_right c] at hj
            have c0 : j - ts.length = 0 := by
              rcases Nat.eq_zero_or_pos (j - ts.length) with w | w
              · exact w
              · rw [List.getElem?_eq_none (by simp; omega)] at hj
                exact nomatch hj
            rw [c0] at hj
            obtain rfl : t = u := Option.some.inj hj
            obtain rfl : j = i := by omega
            rw [upd_ne (ne_of_none hD26 ht).symm, upd_same, getR j hio, List.map_map]
            rfl
        · rw [upd_ne (ne_of_none e' hD2)]
          exact sT _ _ (n2 _ _ (m4 b' u e'))
    · rintro H7 ⟨ts, m1, m2, m3, m4⟩
      rw [List.length_map] at m2
      refine ⟨D2, _, rfl, .inl ⟨SqL.of m1, fun tr htr => ?_⟩⟩
      have s4 := same_new htr (.tup (ts.map V.ref))
      have etr : upd H7 tr (.tup (ts.map V.ref)) tr = some (.tup (ts.map V.ref)) := upd_same
      have m3' := fun j t hj => s4 _ _ (m3 j t hj)
      have s34 := m4.trans s4
      show gName 8 _ _ (upd H7 tr (.tup (ts.map V.ref))) _
      generalize upd H7 tr (.tup (ts.map V.ref)) = H8 at s4 etr m3' s34 ⊢
      refine ⟨_, rfl, _, rfl, lf, _, rfl, SqL.of (s34 _ _ gl), fun D4 hD4 => ?_⟩
      refine lc_it walk_enum (fun i H' => H' D4 = some (.lst (((List.range i).filter fun j => decide ((firstsOf cs).getD j 0 ∈ ends1)).map nI)) ∧ Same H8 H') ⟨upd_same, same_new hD4 _⟩ (fun i H' _ ⟨_, s⟩ => s.seq (SqL.of (s34 _ _ gl))) ?_ ?_
      · rintro i x H9 H10 hi ⟨n1, n2⟩ ⟨T1, x1, y1, rfl, hT, rfl, e1', e2⟩
        obtain rfl : V.int (i : Nat) = x1 := Option.some.inj e1'
        obtain ⟨hio, rfl⟩ := item e2
        have hmem : (firstsOf cs).getD i 0 ∈ firstsOf cs := List.mem_of_getElem? (getD_at hio)
        have n1' := (upd_ne (o := .tup [V.int (i : Nat), nI ((firstsOf cs).getD i 0)]) (ne_of_none n1 hT)).trans n1
        have n2' := n2.trans (same_new hT (.tup [V.int (i : Nat), nI ((firstsOf cs).getD i 0)]))
        have hfl : ((flagsOf rows1.length ends1).map V.bl)[(firstsOf cs).getD i 0]? = some (.bl (decide ((firstsOf cs).getD i 0 ∈ ends1))) := by
          unfold flagsOf
          rw [List.getElem?_map, List.getElem?_map, List.getElem?_range (fn _ hmem)]
          rfl
        refine ⟨T1, _, rfl, SqT.of upd_same, rfl, _, _, rfl, _, _, rfl, rfl, rfl, _, rfl, _, rfl, lg, _, _, _, rfl, rfl, SqL.of (n2' _ _ (s34 _ _ g6)), atI_nat hfl, _, rfl, ?_⟩
        generalize upd H9 T1 (.tup [V.int (i : Nat), nI ((firstsOf cs).getD i 0)]) = H11 at n1' n2' ⊢
        refine ite2 (fun c => ⟨_, rfl, _, n1', ?_, ?_, fun b u e => ?_⟩) (fun c => ⟨?_, n2'⟩)
        · rw [List.length_map]
          refine Nat.lt_of_le_of_lt (List.length_filter_le _ _) ?_
          rw [List.length_range]
          omega
        · rw [upd_same, List.range_succ, List.filter_append, List.map_append]
          rw [show ([i].filter fun j => decide ((firstsOf cs).getD j 0 ∈ ends1)) = [i] by rw [List.filter_cons]; rw [if_pos c]; rfl]
          rfl
        · rw [upd_ne (ne_of_none e hD4)]
          exact n2' b u e
        · rw [n1', List.range_succ, List.filter_append]
          rw [show ([i].filter fun j => decide ((firstsOf cs).getD j 0 ∈ ends1)) = [] by rw [List.filter_cons]; rw [if_neg c]; rfl]
          rw [List.append_nil]
      · rintro H9 ⟨n1, n2⟩
        rw [List.length_map] at n1
        refine ⟨D4, _, rfl, .inl ⟨SqL.of n1, fun te hte => ⟨(by show 2 ≤ sizeLine; decide), fun t ht => ?_⟩⟩⟩
        have s7 := n2.trans (same_new hte (.tup ((endsAt (firstsOf cs) ends1).map nI)))
        have s8 := s7.trans (same_new ht (.tup [.ref tr, .ref te]))
        have base2 := (s1.trans s5).trans (s6.trans s34)
        refine q t (.ref tr) (.ref te) cs _ (base2.trans s8) ((base2.trans s7).free ht) upd_same cn rf stable ⟨tr, ts.map V.ref, rfl, .inl (.inl (s8 _ _ etr)), by rw [List.length_map, m2, lr], fun j b r h1 h2 => ?_⟩ ⟨te, rfl, .inl (.inl ?_)⟩
        · rw [List.getElem?_map] at h1
          obtain ⟨u, hu', rfl⟩ := Option.map_eq_some_iff.mp h1
          refine ⟨u, rfl, .inl (.inl ?_)⟩
          have z := s8 _ _ (m3' j u hu')
          rw [List.getD_eq_getElem?_getD, h2] at z
          exact z
        · exact same_new ht _ _ _ upd_same
end
end Vf

set_option Elab.async false
set_option linter.all false
set_option maxRecDepth 100000
set_option maxHeartbeats 4000000
namespace Vf
open PySem PySem.Spec PyProof.Rows L2 L2.Vx Vs
/-! ### the least machine has the same language -/
/-- the state to which letters (told by their places) lead -/
def led (rows : List (List Nat)) (w : List Nat) (s : Nat) : Nat := w.foldl (fun s a => nextOf rows a s) s
theorem led_cons (rows : List (List Nat)) (a : Nat) (w : List Nat) (s : Nat) : led rows (a :: w) s = led rows w (nextOf rows a s) := rfl
theorem next_lt {rows : List (List Nat)} {k a s : Nat} (sq : Square rows k) (ha : a < k) (hs : s < rows.length) : nextOf rows a s < rows.length := rowOf_mem sq.inn _ (List.mem_of_getElem? (next_at hs fun r hr => by rw [sq.wide r hr]; exact ha))
theorem led_lt {rows : List (List Nat)} {k : Nat} (sq : Square rows k) : ∀ (w : List Nat) (s : Nat), (∀ a ∈ w, a < k) → s < rows.length → led rows w s < rows.length
  | [], _, _, hs => hs
  | a :: w, s, h, hs => led_lt sq w _ (fun b hb => h b (List.mem_cons_of_mem _ hb)) (next_lt sq (h a (List.mem_cons_self ..)) hs)
theorem map_next {rows rows' : List (List Nat)} {g : Nat → Nat} {i s a : Nat} (h : rowOf rows' i = (rowOf rows s).map g) (ha : a < (rowOf rows s).length) : nextOf rows' a i = g (nextOf rows a s) := by
  unfold nextOf
  rw [h, List.getD_eq_getElem?_getD, List.getElem?_map, getD_at ha]
  rfl
theorem idx_get {o : List Nat} {s : Nat} (h : s ∈ o) : o.getD (o.idxOf s) 0 = s := by
  have hi := List.idxOf_lt_length_of_mem h
  rw [List.getD_eq_getElem?_getD, List.getElem?_eq_getElem hi]
  exact List.getElem_idxOf hi
theorem renum_row {rows : List (List Nat)} {o : List Nat} {i : Nat} (hi : i < o.length) : rowOf (renum rows o) i = (rowOf rows (o.getD i 0)).map fun t => o.idxOf t := by
  unfold rowOf renum
  rw [List.getD_eq_getElem?_getD, List.getElem?_map, getD_at hi]
  rfl
theorem quot_row {rows : List (List Nat)} {cs : List Nat} {i : Nat} (hi : i < (firstsOf cs).length) : rowOf (quotRows rows cs) i = (rowOf rows ((firstsOf cs).getD i 0)).map fun t => numOf cs t := by
  unfold quotRows
  show (List.map _ _).getD i [] = _
  rw [List.getD_eq_getElem?_getD, List.getElem?_map, getD_at hi]
  rfl
theorem width {rows : List (List Nat)} {k s : Nat} (sq : Square rows k) (hs : s < rows.length) : (rowOf rows s).length = k := sq.wide _ (List.mem_of_getElem? (rowOf_at hs))
theorem led_renum {rows : List (List Nat)} {k : Nat} (sq : Square rows k) {o : List Nat} (R : Reached rows 0 o) : ∀ (w : List Nat) (s : Nat), (∀ a ∈ w, a < k) → s ∈ o → led (renum rows o) w (o.idxOf s) = o.idxOf (led rows w s) ∧ led rows w s ∈ o
  | [], _, _, hs => ⟨rfl, hs⟩
  | a :: w, s, h, hs => by
    have ha := h a (List.mem_cons_self ..)
    have hi := List.idxOf_lt_length_of_mem hs
    have hsn := R.lt s hs
    have e : nextOf (renum rows o) a (o.idxOf s) = o.idxOf (nextOf rows a s) := map_next (rows := rows) (s := s) (g := fun t => o.idxOf t) (by rw [renum_row hi, idx_get hs]) (by rw [width sq hsn]; exact ha)
    rw [led_cons, led_cons, e]
    refine led_renum sq R w _ (fun b hb => h b (List.mem_cons_of_mem _ hb)) (R.closed s hs _ ?_)
    exact List.mem_of_getElem? (next_at hsn fun r hr => by rw [sq.wide r hr]; exact ha)
theorem num_congr {cs : List Nat} {x y : Nat} (h : clsOf cs x = clsOf cs y) : numOf cs x = numOf cs y := by
  unfold numOf
  rw [h]
theorem first_of {cs : List Nat} {t : Nat} (ht : t < cs.length) : numOf cs t < (firstsOf cs).length ∧ clsOf cs ((firstsOf cs).getD (numOf cs t) 0) = clsOf cs t := by
  have hm : clsOf cs t ∈ keysOf cs cs.length := by
    obtain ⟨x, h1, h2, _⟩ := first_has cs cs.length t ht
    exact List.mem_map.mpr ⟨x, h1, h2⟩
  have hi : numOf cs t < (firstsOf cs).length := by
    have z := List.idxOf_lt_length_of_mem hm
    rw [List.length_map] at z
    exact z
  refine ⟨hi, ?_⟩
  have z := idx_get hm
  rw [List.getD_eq_getElem?_getD, List.getElem?_map, show (firstsTo cs cs.length)[(keysOf cs cs.length).idxOf (clsOf cs t)]? = some ((firstsOf cs).getD (numOf cs t) 0) from getD_at hi] at z
  exact z
theorem led_quot {rows : List (List Nat)} {k : Nat} (sq : Square rows k) {cs : List Nat} (hc : cs.length = rows.length)
    (st : ∀ p q a, p < rows.length → q < rows.length → a < k → clsOf cs p = clsOf cs q → clsOf cs (nextOf rows a p) = clsOf cs (nextOf rows a q)) :
    ∀ (w : List Nat) (s : Nat), (∀ a ∈ w, a < k) → s < rows.length → led (quotRows rows cs) w (numOf cs s) = numOf cs (led rows w s)
  | [], _, _, _ => rfl
  | a :: w, s, h, hs => by
    have ha := h a (List.mem_cons_self ..)
    obtain ⟨hi, he⟩ := first_of (cs := cs) (t := s) (by omega)
    have hf : (firstsOf cs).getD (numOf cs s) 0 < rows.length := by
      have z : (firstsOf cs).getD (numOf cs s) 0 < cs.length := List.mem_range.mp (List.mem_filter.mp (List.mem_of_getElem? (getD_at hi))).1
      omega
    have e : nextOf (quotRows rows cs) a (numOf cs s) = numOf cs (nextOf rows a s) := by
      rw [map_next (quot_row hi) (by rw [width sq hf]; exact ha)]
      exact num_congr (st _ _ a hf hs ha he)
    rw [led_cons, led_cons, e]
    exact led_quot sq hc st w _ (fun b hb => h b (List.mem_cons_of_mem _ hb)) (next_lt sq ha hs)
theorem mem_endsAt {o ends : List Nat} {i : Nat} (hi : i < o.length) : i ∈ endsAt o ends ↔ o.getD i 0 ∈ ends := by
  unfold endsAt
  rw [List.mem_filter, List.mem_range, decide_eq_true_eq]
  exact ⟨fun z => z.2, fun z => ⟨hi, z⟩⟩
theorem num_zero {cs : List Nat} (h : 0 < cs.length) : numOf cs 0 = 0 := by
  have f0 : isFirst cs 0 = true := rfl
  have e : ∃ r, firstsOf cs = 0 :: r := by
    show ∃ r, (List.range cs.length).filter (isFirst cs) = 0 :: r
    obtain ⟨n, hn⟩ : ∃ n, cs.length = n + 1 := ⟨cs.length - 1, by omega⟩
    rw [hn, List.range_succ_eq_map, List.filter_cons, if_pos f0]
    exact ⟨_, rfl⟩
  obtain ⟨r, e⟩ := e
  unfold numOf keysOf
  rw [show firstsTo cs cs.length = 0 :: r from e, List.map_cons, List.idxOf_cons]
  simp
/-- the parts of the least machine, as least_machine makes them -/
theorem least_same {rows : List (List Nat)} {k : Nat} (sq : Square rows k) {ends cs : List Nat} (hc : cs.length = (renum rows (reach rows 0)).length)
    (rf : Hop.Ref (renum rows (reach rows 0)).length k (nextOf (renum rows (reach rows 0))) (fun x => x ∈ endsAt (reach rows 0) ends) (clsOf cs))
    (st : ∀ p q a, p < (renum rows (reach rows 0)).length → q < (renum rows (reach rows 0)).length → a < k → clsOf cs p = clsOf cs q → clsOf cs (nextOf (renum rows (reach rows 0)) a p) = clsOf cs (nextOf (renum rows (reach rows 0)) a q))
    (w : List Nat) (hw : ∀ a ∈ w, a < k) : led (quotRows (renum rows (reach rows 0)) cs) w 0 ∈ endsAt (firstsOf cs) (endsAt (reach rows 0) ends) ↔ led rows w 0 ∈ ends := by
  have R := reached sq.inn sq.some
  have sq1 := renum_square sq
  have l1 : (renum rows (reach rows 0)).length = (reach rows 0).length := List.length_map _
  have m0 : 0 ∈ reach rows 0 := List.mem_of_getElem? R.first
  have i0 : (reach rows 0).idxOf 0 = 0 := by
    have h1 := idx_get m0
    have h2 := List.idxOf_lt_length_of_mem m0
    have h3 := getD_at h2
    rw [h1, ← R.first] at h3
    obtain ⟨g1, e1⟩ := List.getElem?_eq_some_iff.mp (R.first)
    rw [List.getElem?_eq_getElem h2, List.getElem?_eq_getElem g1] at h3
    have h4 := Option.some.inj h3
    rcases Nat.eq_zero_or_pos ((reach rows 0).idxOf 0) with z | z
    · exact z
    · exact absurd h4.symm (List.pairwise_iff_getElem.mp R.nd 0 _ g1 h2 z)
  obtain ⟨e1, m1⟩ := led_renum sq R w 0 hw m0
  rw [i0] at e1
  have p0 : 0 < cs.length := by rw [hc]; exact sq1.some
  have e2 := led_quot sq1 hc st w 0 hw sq1.some
  rw [num_zero p0] at e2
  have lt1 := led_lt sq1 w 0 hw sq1.some
  rw [e2]
  obtain ⟨f1, f2⟩ := first_of (cs := cs) (t := led (renum rows (reach rows 0)) w 0) (by rw [hc]; exact lt1)
  rw [mem_endsAt f1]
  have hf : (firstsOf cs).getD (numOf cs (led (renum rows (reach rows 0)) w 0)) 0 < (renum rows (reach rows 0)).length := by
    have z : (firstsOf cs).getD (numOf cs (led (renum rows (reach rows 0)) w 0)) 0 < cs.length := List.mem_range.mp (List.mem_filter.mp (List.mem_of_getElem? (getD_at f1))).1
    omega
  rw [rf.fl _ _ hf lt1 f2, e1, mem_endsAt (List.idxOf_lt_length_of_mem m1), idx_get m1]
end Vf

set_option Elab.async false
set_option linter.all false
set_option maxRecDepth 100000
set_option maxHeartbeats 4000000
namespace Vf
open PySem PySem.Spec PyProof.Rows L2 L2.Vx
/-! ### lists without what comes again -/
def dd (l : List Nat) : List Nat := l.foldl into []
theorem dd_snoc (l : List Nat) (x : Nat) : dd (l ++ [x]) = into (dd l) x := by
  unfold dd
  rw [List.foldl_append]
  rfl
theorem dd_app (l m : List Nat) : dd (l ++ m) = m.foldl into (dd l) := by
  unfold dd
  rw [List.foldl_append]
theorem mem_into {o : List Nat} {t x : Nat} : x ∈ into o t ↔ x ∈ o ∨ x = t := by
  unfold into
  split
  · rename_i h
    constructor
    · exact .inl
    · rintro (h' | rfl)
      · exact h'
      · exact h
  · simp
theorem mem_fold {m : List Nat} : ∀ {o : List Nat} {x : Nat}, x ∈ m.foldl into o ↔ x ∈ o ∨ x ∈ m := by
  induction m with
  | nil => intro o x; simp
  | cons t r ih =>
    intro o x
    rw [List.foldl_cons, ih, mem_into, List.mem_cons, or_assoc]
theorem mem_dd {l : List Nat} {x : Nat} : x ∈ dd l ↔ x ∈ l := by
  unfold dd
  rw [mem_fold]
  simp
theorem dd_nodup (l : List Nat) : (dd l).Nodup := by
  have : ∀ (m o : List Nat), o.Nodup → (m.foldl into o).Nodup := by
    intro m
    induction m with
    | nil => exact fun o h => h
    | cons t r ih => exact fun o h => ih _ (into_nodup h)
  exact this l [] List.nodup_nil
theorem into_in {o : List Nat} {t : Nat} (h : t ∈ o) : into o t = o := if_pos h
theorem into_out {o : List Nat} {t : Nat} (h : t ∉ o) : into o t = o ++ [t] := if_neg h
theorem fold_in : ∀ {m o : List Nat}, (∀ x ∈ m, x ∈ o) → m.foldl into o = o
  | [], _, _ => rfl
  | t :: r, o, h => by
    rw [List.foldl_cons, into_in (h t (List.mem_cons_self ..))]
    exact fold_in fun x hx => h x (List.mem_cons_of_mem _ hx)
theorem fold_pre2 : ∀ (m o : List Nat), o <+: m.foldl into o
  | [], o => List.prefix_rfl
  | t :: r, o => into_pre.trans (fold_pre2 r (into o t))
theorem dd_pre (l m : List Nat) : dd l <+: dd (l ++ m) := by
  rw [dd_app]
  exact fold_pre2 m _
theorem fold_new : ∀ {m o : List Nat}, m.Nodup → (∀ x ∈ m, x ∉ o) → m.foldl into o = o ++ m
  | [], o, _, _ => by simp
  | t :: r, o, d, h => by
    obtain ⟨d1, d2⟩ := List.nodup_cons.mp d
    rw [List.foldl_cons, into_out (h t (List.mem_cons_self ..)), fold_new d2 fun x hx hm => ?_, List.append_assoc]
    · rfl
    · rcases List.mem_append.mp hm with z | z
      · exact h x (List.mem_cons_of_mem _ hx) z
      · rw [List.mem_singleton.mp z] at hx
        exact d1 hx
theorem dd_self {l : List Nat} (h : l.Nodup) : dd l = l := by
  have := fold_new (m := l) (o := []) h (fun x _ z => nomatch z)
  rw [List.nil_append] at this
  exact this
theorem snoc_ind {P : List Nat → Prop} (h0 : P []) (h : ∀ l x, P l → P (l ++ [x])) (l : List Nat) : P l := by
  rw [← List.reverse_reverse l]
  induction l.reverse with
  | nil => exact h0
  | cons x r ih =>
    rw [List.reverse_cons]
    exact h _ x ih
/-- images -/
theorem dd_map (π : Nat → Nat) (l : List Nat) : dd ((dd l).map π) = dd (l.map π) := by
  induction l using snoc_ind with
  | h0 => rfl
  | h l x ih =>
    rw [dd_snoc, List.map_append, List.map_cons, List.map_nil, dd_snoc]
    by_cases c : x ∈ dd l
    · rw [into_in c, ih, into_in (mem_dd.mpr (List.mem_map_of_mem (mem_dd.mp c)))]
    · rw [into_out c, List.map_append, List.map_cons, List.map_nil, dd_snoc, ih]
theorem dd_flat (c : List Nat) (f : Nat → List Nat) (l : List Nat) : dd (c ++ (dd l).flatMap f) = dd (c ++ l.flatMap f) := by
  induction l using snoc_ind with
  | h0 => rfl
  | h l x ih =>
    rw [dd_snoc, List.flatMap_append, List.flatMap_cons, List.flatMap_nil, List.append_nil]
    by_cases h : x ∈ dd l
    · rw [into_in h, ih, ← List.append_assoc, dd_app (c ++ l.flatMap f)]
      refine (fold_in fun y hy => mem_dd.mpr (List.mem_append_right _ (List.mem_flatMap.mpr ⟨x, mem_dd.mp h, hy⟩))).symm
    · rw [into_out h, List.flatMap_append, List.flatMap_cons, List.flatMap_nil, List.append_nil, ← List.append_assoc, ← List.append_assoc, dd_app, ih, ← dd_app]
/-! ### the order in which states are met -/
structure Met (rows : List (List Nat)) (k s : Nat) (o : List Nat) : Prop where
  fix : o = dd (s :: o.flatMap (rowOf rows))
  got : ∀ x ∈ o, ∃ w : List Nat, (∀ a ∈ w, a < k) ∧ led rows w s = x
theorem Met.nodup {rows : List (List Nat)} {k s : Nat} {o : List Nat} (h : Met rows k s o) : o.Nodup := by
  rw [h.fix]
  exact dd_nodup _
theorem Met.mem {rows : List (List Nat)} {k s : Nat} {o : List Nat} (h : Met rows k s o) {x : Nat} : x ∈ o ↔ x = s ∨ ∃ p ∈ o, x ∈ rowOf rows p := by
  have e : x ∈ o ↔ x ∈ dd (s :: o.flatMap (rowOf rows)) := by rw [← h.fix]
  rw [e, mem_dd, List.mem_cons, List.mem_flatMap]
theorem next_mem {rows : List (List Nat)} {k : Nat} {s a : Nat} (sq : Square rows k) (hs : s < rows.length) (ha : a < k) : nextOf rows a s ∈ rowOf rows s :=
  List.mem_of_getElem? (next_at hs fun r hr => by rw [sq.wide r hr]; exact ha)
theorem closed_all {rows : List (List Nat)} {k s : Nat} {o : List Nat} (sq : Square rows k) (h0 : s ∈ o) (lt : ∀ x ∈ o, x < rows.length) (cl : ∀ p ∈ o, ∀ t ∈ rowOf rows p, t ∈ o) : ∀ w : List Nat, (∀ a ∈ w, a < k) → led rows w s ∈ o := by
  intro w
  induction w using snoc_ind with
  | h0 => exact fun _ => h0
  | h w a ih =>
    intro hw
    have hi := ih fun b hb => hw b (List.mem_append_left _ hb)
    have e : led rows (w ++ [a]) s = nextOf rows a (led rows w s) := by
      unfold led
      rw [List.foldl_append]
      rfl
    rw [e]
    exact cl _ hi _ (next_mem sq (lt _ hi) (hw a (List.mem_append_right _ (List.mem_singleton.mpr rfl))))
/-- there is one such order only -/
theorem met_uniq {rows : List (List Nat)} {k s : Nat} {o o' : List Nat} (sq : Square rows k) (lt : ∀ x ∈ o, x < rows.length) (lt' : ∀ x ∈ o', x < rows.length) (h : Met rows k s o) (h' : Met rows k s o') : o = o' := by
  have key : ∀ m, o.take m = o'.take m := by
    intro m
    induction m with
    | zero => rfl
    | succ m ih =>
      have half : ∀ {p p' : List Nat}, (∀ x ∈ p, x < rows.length) → (∀ x ∈ p', x < rows.length) → Met rows k s p → Met rows k s p' → p.take m = p'.take m → dd (s :: (p.take m).flatMap (rowOf rows)) <+: p := by
        intro p p' l1 l2 m1 m2 e
        have e2 : s :: p.flatMap (rowOf rows) = (s :: (p.take m).flatMap (rowOf rows)) ++ (p.drop m).flatMap (rowOf rows) := by
          rw [List.cons_append, ← List.flatMap_append, List.take_append_drop]
        have := dd_pre (s :: (p.take m).flatMap (rowOf rows)) ((p.drop m).flatMap (rowOf rows))
        rw [← e2, ← m1.fix] at this
        exact this
      have p1 := half lt lt' h h' ih
      have p2 := half lt' lt h' h ih.symm
      rw [← ih] at p2
      generalize hX : dd (s :: (o.take m).flatMap (rowOf rows)) = X at p1 p2
      by_cases c : m < X.length
      · have t1 : o.take (m + 1) = X.take (m + 1) := by
          obtain ⟨r, hr⟩ := p1
          rw [← hr, List.take_append_of_le_length (by omega)]
        have t2 : o'.take (m + 1) = X.take (m + 1) := by
          obtain ⟨r, hr⟩ := p2
          rw [← hr, List.take_append_of_le_length (by omega)]
        rw [t1, t2]
      · -- nothing more is met
        have stop : ∀ {p : List Nat}, (∀ x ∈ p, x < rows.length) → Met rows k s p → X <+: p → p.take m = o.take m → p.length ≤ m := by
          intro p l1 m1 px e
          have hXm : ∀ x ∈ X, x ∈ p.take m := by
            intro x hx
            obtain ⟨r, hr⟩ := px
            rw [← hr, List.take_append]
            refine List.mem_append_left _ ?_
            rw [List.take_of_length_le (by omega)]
            exact hx
          have inX : ∀ y, y ∈ s :: (p.take m).flatMap (rowOf rows) → y ∈ p.take m := fun y hy => hXm y (by
            rw [← hX, ← e]
            exact mem_dd.mpr hy)
          have all : ∀ x ∈ p, x ∈ p.take m := by
            intro x hx
            obtain ⟨w, hw, rfl⟩ := m1.got x hx
            exact closed_all sq (inX s (List.mem_cons_self ..)) (fun y hy => l1 y (List.mem_of_mem_take hy)) (fun q hq t ht => inX t (List.mem_cons_of_mem _ (List.mem_flatMap.mpr ⟨q, hq, ht⟩))) w hw
          have := nodup_sub p (p.take m) m1.nodup all
          rw [List.length_take] at this
          omega
        have s1 := stop lt h p1 rfl
        have s2 := stop lt' h' p2 ih.symm
        rw [List.take_of_length_le (by omega), List.take_of_length_le (by omega)]
        rw [List.take_of_length_le s1, List.take_of_length_le s2] at ih
        exact ih
  have := key (o.length + o'.length)
  rw [List.take_of_length_le (by omega), List.take_of_length_le (by omega)] at this
  exact this
/-- the image of such an order -/
theorem met_map {A B : List (List Nat)} {k s : Nat} {o : List Nat} {π : Nat → Nat} (sqA : Square A k) (lt : ∀ x ∈ o, x < A.length) (h : Met A k s o) (hom : ∀ p ∈ o, rowOf B (π p) = (rowOf A p).map π)
    (ledB : ∀ w : List Nat, (∀ a ∈ w, a < k) → led B w (π s) = π (led A w s)) : Met B k (π s) (dd (o.map π)) := by
  refine ⟨?_, fun x hx => ?_⟩
  · have e1 : dd (o.map π) = dd ((s :: o.flatMap (rowOf A)).map π) := by
      have z := dd_map π (s :: o.flatMap (rowOf A))
      rw [← h.fix] at z
      exact z
    have e2 : (s :: o.flatMap (rowOf A)).map π = [π s] ++ (o.map π).flatMap (rowOf B) := by
      rw [List.map_cons, List.map_flatMap, List.flatMap_map]
      show π s :: _ = π s :: _
      congr 1
      rw [List.flatMap_def, List.flatMap_def]
      congr 1
      exact List.map_congr_left fun p hp => (hom p hp).symm
    have e3 := dd_flat [π s] (rowOf B) (o.map π)
    exact (e1.trans (congrArg dd e2)).trans e3.symm
  · obtain ⟨p, hp, rfl⟩ := List.mem_map.mp (mem_dd.mp hx)
    obtain ⟨w, hw, rfl⟩ := h.got p hp
    exact ⟨w, hw, ledB w hw⟩
end Vf

set_option Elab.async false
set_option linter.all false
set_option maxRecDepth 100000
set_option maxHeartbeats 1000000
namespace Vf
open PySem PySem.Spec PyProof.Rows L2 L2.Vx
/-! ### least machines, numbered as their states are met: there is just one of a language -/
theorem led_app (rows : List (List Nat)) (u v : List Nat) (s : Nat) : led rows (u ++ v) s = led rows v (led rows u s) := by
  unfold led
  rw [List.foldl_append]
theorem led_one (rows : List (List Nat)) (u : List Nat) (a s : Nat) : led rows (u ++ [a]) s = nextOf rows a (led rows u s) := by
  rw [led_app]
  rfl
structure Least (rows : List (List Nat)) (k : Nat) (ends : List Nat) : Prop where
  sq : Square rows k
  met : Met rows k 0 (List.range rows.length)
  parted : ∀ p q, p < rows.length → q < rows.length → (∀ w : List Nat, (∀ a ∈ w, a < k) → (led rows w p ∈ ends ↔ led rows w q ∈ ends)) → p = q
  ends : ends = (List.range rows.length).filter fun x => decide (x ∈ ends)
theorem row_ext {A : List (List Nat)} {k p : Nat} (sq : Square A k) (hp : p < A.length) {l : List Nat} (hl : l.length = k) (h : ∀ a, a < k → l[a]? = some (nextOf A a p)) : rowOf A p = l := by
  apply List.ext_getElem?
  intro a
  by_cases ha : a < k
  · rw [h a ha, next_at hp fun r hr => by rw [sq.wide r hr]; exact ha]
  · rw [List.getElem?_eq_none (by rw [width sq hp]; omega), List.getElem?_eq_none (by omega)]
theorem rows_ext {A B : List (List Nat)} (hn : A.length = B.length) (h : ∀ p, p < A.length → rowOf A p = rowOf B p) : A = B := by
  apply List.ext_getElem?
  intro p
  by_cases hp : p < A.length
  · rw [rowOf_at hp, rowOf_at (by omega), h p hp]
  · rw [List.getElem?_eq_none (by omega), List.getElem?_eq_none (by omega)]
theorem app_lt {k : Nat} {u v : List Nat} (hu : ∀ a ∈ u, a < k) (hv : ∀ a ∈ v, a < k) : ∀ a ∈ u ++ v, a < k := fun a ha => (List.mem_append.mp ha).elim (hu a) (hv a)
theorem one_lt {k a : Nat} (ha : a < k) : ∀ b ∈ [a], b < k := fun b hb => by rw [List.mem_singleton.mp hb]; exact ha
theorem least_uniq {A B : List (List Nat)} {k : Nat} {eA eB : List Nat} (hA : Least A k eA) (hB : Least B k eB) (same : ∀ w : List Nat, (∀ a ∈ w, a < k) → (led A w 0 ∈ eA ↔ led B w 0 ∈ eB)) : A = B ∧ eA = eB := by
  classical
  have got : ∀ p, ∃ w : List Nat, (∀ a ∈ w, a < k) ∧ (p < A.length → led A w 0 = p) := fun p => by
    by_cases hp : p < A.length
    · obtain ⟨w, h1, h2⟩ := hA.met.got p (List.mem_range.mpr hp)
      exact ⟨w, h1, fun _ => h2⟩
    · exact ⟨[], fun a ha => (nomatch ha), fun h => absurd h hp⟩
  obtain ⟨wd, hwd⟩ := Classical.axiomOfChoice got
  let φ : Nat → Nat := fun p => led B (wd p) 0
  have lA : ∀ w : List Nat, (∀ a ∈ w, a < k) → led A w 0 < A.length := fun w hw => led_lt hA.sq w 0 hw hA.sq.some
  have lB : ∀ w : List Nat, (∀ a ∈ w, a < k) → led B w 0 < B.length := fun w hw => led_lt hB.sq w 0 hw hB.sq.some
  have key : ∀ w : List Nat, (∀ a ∈ w, a < k) → led B w 0 = φ (led A w 0) := fun w hw => by
    have hx := hwd (led A w 0)
    refine hB.parted _ _ (lB w hw) (lB _ hx.1) fun v hv => ?_
    rw [← led_app, ← led_app, ← same _ (app_lt hw hv), ← same _ (app_lt hx.1 hv), led_app, led_app, hx.2 (lA w hw)]
  have φ0 : φ 0 = 0 := (key [] fun a ha => nomatch ha).symm
  have inj : ∀ p q, p < A.length → q < A.length → φ p = φ q → p = q := fun p q hp hq e => by
    refine hA.parted p q hp hq fun v hv => ?_
    have e1 := (hwd p).2 hp
    have e2 := (hwd q).2 hq
    have s1 := same _ (app_lt (hwd p).1 hv)
    have s2 := same _ (app_lt (hwd q).1 hv)
    rw [led_app, led_app, e1] at s1
    rw [led_app, led_app, e2] at s2
    rw [s1, s2]
    show led B v (φ p) ∈ eB ↔ led B v (φ q) ∈ eB
    rw [e]
  have hom : ∀ p, p < A.length → rowOf B (φ p) = (rowOf A p).map φ := fun p hp => by
    have hφ : φ p < B.length := lB _ (hwd p).1
    refine row_ext hB.sq hφ (by rw [List.length_map, width hA.sq hp]) fun a ha => ?_
    rw [List.getElem?_map, next_at hp fun r hr => by rw [hA.sq.wide r hr]; exact ha]
    have e := key (wd p ++ [a]) (app_lt (hwd p).1 (one_lt ha))
    rw [led_one, led_one, (hwd p).2 hp] at e
    exact congrArg some e.symm
  have M := met_map (B := B) (π := φ) hA.sq (fun x hx => List.mem_range.mp hx) hA.met (fun p hp => hom p (List.mem_range.mp hp)) fun w hw => by
    rw [φ0]
    exact key w hw
  rw [φ0] at M
  have nd : ((List.range A.length).map φ).Nodup := by
    refine List.pairwise_map.mpr (List.Pairwise.imp_of_mem (fun {p q} hp hq ne e => ne (inj p q (List.mem_range.mp hp) (List.mem_range.mp hq) e)) List.nodup_range)
  rw [dd_self nd] at M
  have e := met_uniq hB.sq (fun x hx => List.mem_range.mp hx) (fun x hx => by
    obtain ⟨p, hp, rfl⟩ := List.mem_map.mp hx
    exact lB _ (hwd p).1) hB.met M
  have hn : A.length = B.length := by
    have := congrArg List.length e
    rw [List.length_map, List.length_range, List.length_range] at this
    exact this.symm
  have id : ∀ p, p < A.length → φ p = p := fun p hp => by
    have := congrArg (fun l : List Nat => l[p]?) e
    simp only [List.getElem?_map] at this
    rw [List.getElem?_range (by omega), List.getElem?_range hp] at this
    exact (Option.some.inj this).symm
  refine ⟨rows_ext hn fun p hp => ?_, ?_⟩
  · have h := hom p hp
    rw [id p hp] at h
    rw [h]
    have : ∀ x ∈ rowOf A p, φ x = x := fun x hx => id x (rowOf_mem hA.sq.inn x hx)
    rw [List.map_congr_left this, List.map_id']
  · rw [hA.ends, hB.ends, hn]
    refine List.filter_congr fun p hp => ?_
    have hp' : p < A.length := by rw [hn]; exact List.mem_range.mp hp
    have s := same _ (hwd p).1
    rw [(hwd p).2 hp', show led B (wd p) 0 = p from id p hp'] at s
    exact decide_eq_decide.mpr s
/-! ### the machine that the program makes is such a one -/
theorem bfs_met {rows : List (List Nat)} {k : Nat} (sq : Square rows k) : ∀ (f i : Nat) (o : List Nat), o.Nodup → (∀ x ∈ o, x < rows.length) → rows.length + 1 ≤ f + i → i ≤ o.length →
    o = dd (0 :: (o.take i).flatMap (rowOf rows)) → (∀ x ∈ o, ∃ w : List Nat, (∀ a ∈ w, a < k) ∧ led rows w 0 = x) → Met rows k 0 (bfs rows f i o)
  | 0, i, o, nd, lt, hf, hi, e, g => by
    have := nodup_lt rows.length o nd lt
    omega
  | f + 1, i, o, nd, lt, hf, hi, e, g => by
    unfold bfs
    by_cases h : i < o.length
    · rw [if_pos h]
      have hs := lt _ (List.mem_of_getElem? (getD_at h))
      have q := fold_into (rowOf rows (o.getD i 0)) o nd lt fun t ht => rowOf_mem sq.inn t ht
      have pre := fold_pre2 (rowOf rows (o.getD i 0)) o
      have tk : ((rowOf rows (o.getD i 0)).foldl into o).take (i + 1) = o.take i ++ [o.getD i 0] := by
        obtain ⟨r, hr⟩ := pre
        rw [← hr, List.take_append_of_le_length (by omega), List.take_add_one, getD_at h]
        rfl
      refine bfs_met sq f (i + 1) _ q.1 q.2 (by omega) (Nat.le_trans h pre.length_le) ?_ fun x hx => ?_
      · rw [tk, List.flatMap_append, List.flatMap_cons, List.flatMap_nil, List.append_nil, ← List.cons_append, dd_app, ← e]
      · rcases mem_fold.mp hx with h' | h'
        · exact g x h'
        · obtain ⟨w, h1, h2⟩ := g _ (List.mem_of_getElem? (getD_at h))
          obtain ⟨a, ha, ea⟩ := List.getElem_of_mem h'
          have hak : a < k := by rw [width sq hs] at ha; exact ha
          refine ⟨w ++ [a], app_lt h1 (one_lt hak), ?_⟩
          rw [led_one, h2]
          have z := next_at (a := a) hs fun r hr => by rw [sq.wide r hr]; exact hak
          rw [List.getElem?_eq_getElem ha, ea] at z
          exact (Option.some.inj z).symm
    · rw [if_neg h]
      rw [List.take_of_length_le (by omega)] at e
      exact ⟨e, g⟩
theorem reach_met {rows : List (List Nat)} {k : Nat} (sq : Square rows k) : Met rows k 0 (reach rows 0) :=
  bfs_met sq (rows.length + 1) 0 [0] (by simp) (fun x hx => by rw [List.mem_singleton.mp hx]; exact sq.some) (Nat.le_refl _) (Nat.zero_le _) rfl fun x hx => ⟨[], fun a ha => (nomatch ha), (List.mem_singleton.mp hx).symm⟩
theorem idx_range {o : List Nat} (nd : o.Nodup) : o.map (fun x => o.idxOf x) = List.range o.length := by
  apply List.ext_getElem?
  intro i
  rw [List.getElem?_map]
  by_cases h : i < o.length
  · rw [List.getElem?_eq_getElem h, List.getElem?_range h]
    show some (o.idxOf o[i]) = some i
    congr 1
    have h2 := List.idxOf_lt_length_of_mem (List.getElem_mem h)
    exact (List.getElem_inj nd).mp (List.getElem_idxOf h2)
  · rw [List.getElem?_eq_none (by omega), List.getElem?_eq_none (by rw [List.length_range]; omega)]
    rfl
theorem idx_zero {o : List Nat} (nd : o.Nodup) {s : Nat} (h : o[0]? = some s) : o.idxOf s = 0 := by
  cases o with
  | nil => cases h
  | cons x r =>
    cases (show x = s from Option.some.inj h)
    simp
theorem range_met {rows : List (List Nat)} {k : Nat} (sq : Square rows k) : Met (renum rows (reach rows 0)) k 0 (List.range (renum rows (reach rows 0)).length) := by
  have R := reached sq.inn sq.some
  have m0 : 0 ∈ reach rows 0 := List.mem_of_getElem? R.first
  have i0 : (reach rows 0).idxOf 0 = 0 := idx_zero R.nd R.first
  have M := met_map (B := renum rows (reach rows 0)) (π := fun x => (reach rows 0).idxOf x) sq R.lt (reach_met sq) (fun p hp => by rw [renum_row (List.idxOf_lt_length_of_mem hp), idx_get hp]) fun w hw => (led_renum sq R w 0 hw m0).1
  rw [idx_range R.nd, dd_self List.nodup_range] at M
  have l1 : (renum rows (reach rows 0)).length = (reach rows 0).length := List.length_map _
  rw [l1]
  have z := M
  rw [i0] at z
  exact z
theorem firsts_pre (cs : List Nat) (i : Nat) : ∀ j, firstsTo cs i <+: firstsTo cs (i + j)
  | 0 => List.prefix_rfl
  | j + 1 => by
    rw [← Nat.add_assoc, firstsTo_succ]
    split
    · exact (firsts_pre cs i j).trans (List.prefix_append _ _)
    · exact firsts_pre cs i j
theorem idx_pre {l m : List Nat} (h : l <+: m) {x : Nat} (hx : x ∈ l) : m.idxOf x = l.idxOf x := by
  obtain ⟨r, rfl⟩ := h
  rw [List.idxOf_append, if_pos hx]
theorem num_first {cs : List Nat} {i : Nat} (hi : i < cs.length) (h : isFirst cs i = true) : numOf cs i = (firstsTo cs i).length := by
  have n : clsOf cs i ∉ keysOf cs i := by
    rw [isFirst_iff] at h
    simpa using h
  have p : keysOf cs i ++ [clsOf cs i] <+: keysOf cs cs.length := by
    have e : firstsTo cs (i + 1) = firstsTo cs i ++ [i] := by rw [firstsTo_succ, if_pos h]
    have q := firsts_pre cs (i + 1) (cs.length - (i + 1))
    rw [show i + 1 + (cs.length - (i + 1)) = cs.length by omega, e] at q
    have := q.map (clsOf cs)
    rw [List.map_append] at this
    exact this
  unfold numOf
  rw [idx_pre p (by simp), List.idxOf_append, if_neg n, List.length_map]
  simp
theorem num_old {cs : List Nat} {i : Nat} (hi : i < cs.length) (h : ¬ isFirst cs i = true) : numOf cs i < (firstsTo cs i).length := by
  have n : clsOf cs i ∈ keysOf cs i := by
    rw [isFirst_iff] at h
    simpa using h
  have p : keysOf cs i <+: keysOf cs cs.length := by
    have q := firsts_pre cs i (cs.length - i)
    rw [show i + (cs.length - i) = cs.length by omega] at q
    exact q.map (clsOf cs)
  unfold numOf
  rw [idx_pre p n]
  have := List.idxOf_lt_length_of_mem n
  rw [List.length_map] at this
  exact this
theorem dd_nums (cs : List Nat) : ∀ i, i ≤ cs.length → dd ((List.range i).map (numOf cs)) = List.range (firstsTo cs i).length
  | 0, _ => rfl
  | i + 1, h => by
    rw [List.range_succ, List.map_append, List.map_cons, List.map_nil, dd_snoc, dd_nums cs i (by omega), firstsTo_succ]
    by_cases c : isFirst cs i = true
    · rw [num_first h c, if_pos c, into_out (by rw [List.mem_range]; omega), List.length_append, ← List.range_succ]
      rfl
    · rw [if_neg c, into_in (List.mem_range.mpr (num_old h c))]
theorem quot_num {cs : List Nat} {p : Nat} (hp : p < (firstsOf cs).length) : numOf cs ((firstsOf cs).getD p 0) = p := by
  unfold numOf
  have h1 : p < (keysOf cs cs.length).length := by rw [List.length_map]; exact hp
  have e : clsOf cs ((firstsOf cs).getD p 0) = (keysOf cs cs.length)[p] := by
    rw [List.getElem_map, List.getD_eq_getElem?_getD, List.getElem?_eq_getElem hp]
    rfl
  rw [e]
  have h2 := List.idxOf_lt_length_of_mem (List.getElem_mem h1)
  exact (List.getElem_inj (keys_nodup cs cs.length)).mp (List.getElem_idxOf h2)
theorem quot_least {A : List (List Nat)} {k : Nat} {ends cs : List Nat} (sq : Square A k) (M : Met A k 0 (List.range A.length)) (hc : cs.length = A.length)
    (rf : Hop.Ref A.length k (nextOf A) (fun x => x ∈ ends) (clsOf cs))
    (st : ∀ p q a, p < A.length → q < A.length → a < k → clsOf cs p = clsOf cs q → clsOf cs (nextOf A a p) = clsOf cs (nextOf A a q)) : Least (quotRows A cs) k (endsAt (firstsOf cs) ends) := by
  have lq : (quotRows A cs).length = (firstsOf cs).length := List.length_map _
  have f0 : ∀ p, p < (firstsOf cs).length → (firstsOf cs).getD p 0 < A.length := fun p hp => by
    have z : (firstsOf cs).getD p 0 < cs.length := List.mem_range.mp (List.mem_filter.mp (List.mem_of_getElem? (getD_at hp))).1
    omega
  have few : (firstsOf cs).length ≤ A.length := by
    have := List.length_filter_le (isFirst cs) (List.range cs.length)
    rw [List.length_range] at this
    show ((List.range cs.length).filter (isFirst cs)).length ≤ _
    omega
  have sqq : Square (quotRows A cs) k := by
    refine ⟨?_, ?_, fun r hr => ?_, sq.thin, fun r hr t ht => ?_⟩
    · rw [lq]
      have := (first_of (cs := cs) (t := 0) (by rw [hc]; exact sq.some)).1
      omega
    · rw [lq]
      exact Nat.le_trans few sq.few
    · obtain ⟨s, hs, rfl⟩ := List.mem_map.mp hr
      have hs' : s < A.length := by rw [← hc]; exact List.mem_range.mp (List.mem_filter.mp hs).1
      rw [List.length_map, width sq hs']
    · obtain ⟨s, hs, rfl⟩ := List.mem_map.mp hr
      obtain ⟨u, hu, rfl⟩ := List.mem_map.mp ht
      rw [lq]
      exact (first_of (cs := cs) (t := u) (by rw [hc]; exact rowOf_mem sq.inn u hu)).1
  have hom : ∀ p, p < A.length → rowOf (quotRows A cs) (numOf cs p) = (rowOf A p).map (numOf cs) := fun p hp => by
    obtain ⟨h1, h2⟩ := first_of (cs := cs) (t := p) (by omega)
    refine row_ext sqq (by rw [lq]; exact h1) (by rw [List.length_map, width sq hp]) fun a ha => ?_
    rw [List.getElem?_map, next_at hp fun r hr => by rw [sq.wide r hr]; exact ha]
    refine congrArg some ?_
    have e := led_quot sq hc st [a] p (one_lt ha) hp
    exact e.symm
  refine ⟨sqq, ?_, fun p q hp hq h => ?_, ?_⟩
  · have z := met_map (B := quotRows A cs) (π := numOf cs) sq (fun x hx => List.mem_range.mp hx) M (fun p hp => hom p (List.mem_range.mp hp)) fun w hw => led_quot sq hc st w 0 hw sq.some
    rw [← hc, dd_nums cs cs.length (Nat.le_refl _), num_zero (by rw [hc]; exact sq.some)] at z
    rw [lq]
    exact z
  · rw [lq] at hp hq
    have ep := quot_num hp
    have eq := quot_num hq
    have hA : ∀ p, p < (firstsOf cs).length → ∀ w : List Nat, (∀ a ∈ w, a < k) → (led (quotRows A cs) w p ∈ endsAt (firstsOf cs) ends ↔ led A w ((firstsOf cs).getD p 0) ∈ ends) := fun p hp w hw => by
      have e := led_quot sq hc st w _ hw (f0 p hp)
      rw [quot_num hp] at e
      have l1 := led_lt sq w _ hw (f0 p hp)
      obtain ⟨g1, g2⟩ := first_of (cs := cs) (t := led A w ((firstsOf cs).getD p 0)) (by omega)
      rw [e, mem_endsAt g1]
      exact rf.fl _ _ (f0 _ g1) l1 g2
    have cl : clsOf cs ((firstsOf cs).getD p 0) = clsOf cs ((firstsOf cs).getD q 0) := by
      refine rf.mx (fun x y => x < A.length ∧ y < A.length ∧ ∀ w : List Nat, (∀ a ∈ w, a < k) → (led A w x ∈ ends ↔ led A w y ∈ ends)) (fun x y r => r.2.2 [] fun a ha => nomatch ha) (fun x y r a ha => ⟨next_lt sq ha r.1, next_lt sq ha r.2.1, fun w hw => r.2.2 (a :: w) fun b hb => (List.mem_cons.mp hb).elim (fun e => e ▸ ha) (hw b)⟩) _ _ (f0 p hp) (f0 q hq) ⟨f0 p hp, f0 q hq, fun w hw => ?_⟩
      rw [← hA p hp w hw, ← hA q hq w hw]
      exact h w hw
    have z := num_congr cl
    rw [ep, eq] at z
    exact z
  · rw [lq]
    unfold endsAt
    refine List.filter_congr fun x hx => decide_eq_decide.mpr ⟨fun c => List.mem_filter.mpr ⟨hx, decide_eq_true c⟩, fun c => of_decide_eq_true (List.mem_filter.mp c).2⟩
theorem made_least {rows : List (List Nat)} {k : Nat} {ends cs : List Nat} (sq : Square rows k) (hc : cs.length = (renum rows (reach rows 0)).length)
    (rf : Hop.Ref (renum rows (reach rows 0)).length k (nextOf (renum rows (reach rows 0))) (fun x => x ∈ endsAt (reach rows 0) ends) (clsOf cs))
    (st : ∀ p q a, p < (renum rows (reach rows 0)).length → q < (renum rows (reach rows 0)).length → a < k → clsOf cs p = clsOf cs q → clsOf cs (nextOf (renum rows (reach rows 0)) a p) = clsOf cs (nextOf (renum rows (reach rows 0)) a q)) :
    Least (quotRows (renum rows (reach rows 0)) cs) k (endsAt (firstsOf cs) (endsAt (reach rows 0) ends)) := quot_least (renum_square sq) (range_met sq) hc rf st
end Vf

set_option Elab.async false
set_option linter.all false
set_option maxRecDepth 100000
set_option maxHeartbeats 1000000
namespace Vf
open PySem PySem.Spec PyProof.Rows L2 L2.Vx
/-! ### the least machine, made by first states of each kind -/
def Sim (rows : List (List Nat)) (k : Nat) (ends : List Nat) (p q : Nat) : Prop := ∀ w : List Nat, (∀ a ∈ w, a < k) → (led rows w p ∈ ends ↔ led rows w q ∈ ends)
theorem Sim.refl {rows : List (List Nat)} {k : Nat} {ends : List Nat} (p : Nat) : Sim rows k ends p p := fun _ _ => Iff.rfl
theorem Sim.symm {rows : List (List Nat)} {k : Nat} {ends : List Nat} {p q : Nat} (h : Sim rows k ends p q) : Sim rows k ends q p := fun w hw => (h w hw).symm
theorem Sim.trans {rows : List (List Nat)} {k : Nat} {ends : List Nat} {p q r : Nat} (h : Sim rows k ends p q) (g : Sim rows k ends q r) : Sim rows k ends p r := fun w hw => (h w hw).trans (g w hw)
theorem Sim.next {rows : List (List Nat)} {k : Nat} {ends : List Nat} {p q a : Nat} (ha : a < k) (h : Sim rows k ends p q) : Sim rows k ends (nextOf rows a p) (nextOf rows a q) := fun w hw => h (a :: w) fun b hb => (List.mem_cons.mp hb).elim (fun e => e ▸ ha) (hw b)
def mateOf (ap : Nat → Nat → Bool) (fs : List Nat) (t : Nat) : Nat := fs.findIdx fun s => !ap s t
def addF (ap : Nat → Nat → Bool) (fs : List Nat) (t : Nat) : List Nat := if mateOf ap fs t < fs.length then fs else fs ++ [t]
structure Firsts (rows : List (List Nat)) (k : Nat) (ends fs : List Nat) : Prop where
  lt : ∀ x ∈ fs, x < rows.length
  zero : fs[0]? = some 0
  apart : ∀ i j, i < fs.length → j < fs.length → Sim rows k ends (fs.getD i 0) (fs.getD j 0) → i = j
  got : ∀ x ∈ fs, ∃ w : List Nat, (∀ a ∈ w, a < k) ∧ led rows w 0 = x
section
variable {rows : List (List Nat)} {k : Nat} {ends : List Nat} {ap : Nat → Nat → Bool}
theorem getD_mem {fs : List Nat} {i : Nat} (h : i < fs.length) : fs.getD i 0 ∈ fs := List.mem_of_getElem? (getD_at h)
theorem getD_pre {fs fs' : List Nat} (h : fs <+: fs') {i : Nat} (hi : i < fs.length) : fs'.getD i 0 = fs.getD i 0 := by
  obtain ⟨r, rfl⟩ := h
  rw [List.getD_eq_getElem?_getD, List.getD_eq_getElem?_getD, List.getElem?_append_left hi]
theorem mate_lt (hap : ∀ p q, p < rows.length → q < rows.length → (ap p q = false ↔ Sim rows k ends p q)) {fs : List Nat} (F : Firsts rows k ends fs) {t : Nat} (ht : t < rows.length) (h : mateOf ap fs t < fs.length) : Sim rows k ends (fs.getD (mateOf ap fs t) 0) t := by
  have z := List.findIdx_getElem (p := fun s => !ap s t) (xs := fs) (w := h)
  have e : fs.getD (mateOf ap fs t) 0 = fs[mateOf ap fs t] := by rw [List.getD_eq_getElem?_getD, List.getElem?_eq_getElem h]; rfl
  rw [e]
  refine (hap _ _ (F.lt _ (List.getElem_mem h)) ht).mp ?_
  have z2 : (!ap (fs[mateOf ap fs t]'h) t) = true := z
  revert z2
  cases ap (fs[mateOf ap fs t]'h) t with
  | true => exact fun y => nomatch y
  | false => exact fun _ => rfl
theorem mate_some (hap : ∀ p q, p < rows.length → q < rows.length → (ap p q = false ↔ Sim rows k ends p q)) {fs : List Nat} (F : Firsts rows k ends fs) {t s : Nat} (ht : t < rows.length) (hs : s ∈ fs) (h : Sim rows k ends s t) : mateOf ap fs t < fs.length :=
  List.findIdx_lt_length_of_exists ⟨s, hs, by rw [(hap _ _ (F.lt s hs) ht).mpr h]; rfl⟩
theorem mate_uniq (hap : ∀ p q, p < rows.length → q < rows.length → (ap p q = false ↔ Sim rows k ends p q)) {fs : List Nat} (F : Firsts rows k ends fs) {t i : Nat} (ht : t < rows.length) (hi : i < fs.length) (h : Sim rows k ends (fs.getD i 0) t) : mateOf ap fs t = i := by
  have h1 := mate_some hap F ht (getD_mem hi) h
  exact F.apart _ _ h1 hi ((mate_lt hap F ht h1).trans h.symm)
theorem mate_pre (hap : ∀ p q, p < rows.length → q < rows.length → (ap p q = false ↔ Sim rows k ends p q)) {fs fs' : List Nat} (F : Firsts rows k ends fs) (F' : Firsts rows k ends fs') (h : fs <+: fs') {t : Nat} (ht : t < rows.length) (hm : mateOf ap fs t < fs.length) : mateOf ap fs' t = mateOf ap fs t :=
  mate_uniq hap F' ht (Nat.lt_of_lt_of_le hm h.length_le) (by rw [getD_pre h hm]; exact mate_lt hap F ht hm)
theorem add_first (hap : ∀ p q, p < rows.length → q < rows.length → (ap p q = false ↔ Sim rows k ends p q)) {fs : List Nat} (F : Firsts rows k ends fs) {t : Nat} (ht : t < rows.length) (hg : ∃ w : List Nat, (∀ a ∈ w, a < k) ∧ led rows w 0 = t) :
    Firsts rows k ends (addF ap fs t) ∧ fs <+: addF ap fs t ∧ mateOf ap (addF ap fs t) t < (addF ap fs t).length ∧ into (List.range fs.length) (mateOf ap (addF ap fs t) t) = List.range (addF ap fs t).length := by
  unfold addF
  by_cases c : mateOf ap fs t < fs.length
  · rw [if_pos c]
    exact ⟨F, List.prefix_rfl, c, into_in (List.mem_range.mpr c)⟩
  · rw [if_neg c]
    have no : ∀ i, i < fs.length → ¬ Sim rows k ends (fs.getD i 0) t := fun i hi h => c (mate_some hap F ht (getD_mem hi) h)
    have last : (fs ++ [t]).getD fs.length 0 = t := by rw [List.getD_eq_getElem?_getD, List.getElem?_append_right (Nat.le_refl _), Nat.sub_self]; rfl
    have pre : fs <+: fs ++ [t] := List.prefix_append _ _
    have ll : (fs ++ [t]).length = fs.length + 1 := by rw [List.length_append]; rfl
    have F' : Firsts rows k ends (fs ++ [t]) := by
      refine ⟨fun x hx => ?_, ?_, fun i j hi hj h => ?_, fun x hx => ?_⟩
      · rcases List.mem_append.mp hx with h | h
        · exact F.lt x h
        · rw [List.mem_singleton.mp h]; exact ht
      · have z := F.zero
        rw [List.getElem?_append_left (List.getElem?_eq_some_iff.mp z).1]
        exact z
      · rw [ll] at hi hj
        by_cases hi' : i < fs.length
        · rw [getD_pre pre hi'] at h
          by_cases hj' : j < fs.length
          · rw [getD_pre pre hj'] at h
            exact F.apart i j hi' hj' h
          · rw [show j = fs.length by omega, last] at h
            exact absurd h (no i hi')
        · rw [show i = fs.length by omega, last] at h
          by_cases hj' : j < fs.length
          · rw [getD_pre pre hj'] at h
            exact absurd h.symm (no j hj')
          · omega
      · rcases List.mem_append.mp hx with h | h
        · exact F.got x h
        · rw [List.mem_singleton.mp h]; exact hg
    have em : mateOf ap (fs ++ [t]) t = fs.length := mate_uniq hap F' ht (by rw [ll]; omega) (by rw [last]; exact .refl t)
    refine ⟨F', pre, by rw [em, ll]; omega, ?_⟩
    rw [em, ll, into_out (by rw [List.mem_range]; omega), List.range_succ]
theorem fold_firsts (hap : ∀ p q, p < rows.length → q < rows.length → (ap p q = false ↔ Sim rows k ends p q)) : ∀ (r fs : List Nat), Firsts rows k ends fs → (∀ t ∈ r, t < rows.length ∧ ∃ w : List Nat, (∀ a ∈ w, a < k) ∧ led rows w 0 = t) →
    Firsts rows k ends (r.foldl (addF ap) fs) ∧ fs <+: r.foldl (addF ap) fs ∧ (∀ t ∈ r, mateOf ap (r.foldl (addF ap) fs) t < (r.foldl (addF ap) fs).length) ∧ (r.map (mateOf ap (r.foldl (addF ap) fs))).foldl into (List.range fs.length) = List.range (r.foldl (addF ap) fs).length
  | [], fs, F, _ => ⟨F, List.prefix_rfl, fun t h => (nomatch h), rfl⟩
  | t :: r, fs, F, h => by
    obtain ⟨ht, hg⟩ := h t (List.mem_cons_self ..)
    obtain ⟨a1, a2, a3, a4⟩ := add_first hap F ht hg
    obtain ⟨b1, b2, b3, b4⟩ := fold_firsts hap r (addF ap fs t) a1 fun x hx => h x (List.mem_cons_of_mem _ hx)
    rw [List.foldl_cons]
    have e := mate_pre hap a1 b1 b2 ht a3
    refine ⟨b1, a2.trans b2, fun x hx => ?_, ?_⟩
    · rcases List.mem_cons.mp hx with rfl | hx
      · rw [e]
        exact Nat.lt_of_lt_of_le a3 b2.length_le
      · exact b3 x hx
    · rw [List.map_cons, List.foldl_cons, e, a4]
      exact b4
/-- so far: firsts, and the rows of some of them -/
structure Due (rows : List (List Nat)) (k : Nat) (ends : List Nat) (ap : Nat → Nat → Bool) (fs : List Nat) (found : List (List Nat)) : Prop where
  fst : Firsts rows k ends fs
  few : found.length ≤ fs.length
  each : ∀ j, j < found.length → found[j]? = some ((rowOf rows (fs.getD j 0)).map (mateOf ap fs)) ∧ ∀ t ∈ rowOf rows (fs.getD j 0), mateOf ap fs t < fs.length
  met : List.range fs.length = dd (0 :: found.flatten)
theorem due_start (sq : Square rows k) : Due rows k ends ap [0] [] :=
  ⟨⟨fun x hx => by rw [List.mem_singleton.mp hx]; exact sq.some, rfl, fun i j hi hj _ => by
      have h1 : ([0] : List Nat).length = 1 := rfl
      omega, fun x hx => ⟨[], fun a ha => (nomatch ha), (List.mem_singleton.mp hx).symm⟩⟩, Nat.zero_le _, fun j hj => (nomatch hj), rfl⟩
theorem row_got (sq : Square rows k) {fs : List Nat} (F : Firsts rows k ends fs) {i : Nat} (hi : i < fs.length) : ∀ t ∈ rowOf rows (fs.getD i 0), t < rows.length ∧ ∃ w : List Nat, (∀ a ∈ w, a < k) ∧ led rows w 0 = t := fun t ht => by
  have hs := F.lt _ (getD_mem hi)
  refine ⟨rowOf_mem sq.inn t ht, ?_⟩
  obtain ⟨w, h1, h2⟩ := F.got _ (getD_mem hi)
  obtain ⟨a, ha, ea⟩ := List.getElem_of_mem ht
  have hak : a < k := by rw [width sq hs] at ha; exact ha
  refine ⟨w ++ [a], app_lt h1 (one_lt hak), ?_⟩
  rw [led_one, h2]
  have z := next_at (a := a) hs fun r hr => by rw [sq.wide r hr]; exact hak
  rw [List.getElem?_eq_getElem ha, ea] at z
  exact (Option.some.inj z).symm
theorem due_next (hap : ∀ p q, p < rows.length → q < rows.length → (ap p q = false ↔ Sim rows k ends p q)) (sq : Square rows k) {fs : List Nat} {found : List (List Nat)} (D : Due rows k ends ap fs found) (h : found.length < fs.length) :
    Due rows k ends ap ((rowOf rows (fs.getD found.length 0)).foldl (addF ap) fs) (found ++ [(rowOf rows (fs.getD found.length 0)).map (mateOf ap ((rowOf rows (fs.getD found.length 0)).foldl (addF ap) fs))]) := by
  obtain ⟨b1, b2, b3, b4⟩ := fold_firsts hap (rowOf rows (fs.getD found.length 0)) fs D.fst (row_got sq D.fst h)
  generalize hfs' : (rowOf rows (fs.getD found.length 0)).foldl (addF ap) fs = fs' at b1 b2 b3 b4
  refine ⟨b1, ?_, fun j hj => ?_, ?_⟩
  · rw [List.length_append]
    exact Nat.le_trans h b2.length_le
  · rw [List.length_append] at hj
    have hj1 : j < found.length + 1 := hj
    by_cases c : j < found.length
    · obtain ⟨e1, e2⟩ := D.each j c
      rw [List.getElem?_append_left c, getD_pre b2 (by omega), e1]
      have hl : ∀ t ∈ rowOf rows (fs.getD j 0), t < rows.length := fun t ht => rowOf_mem sq.inn t ht
      refine ⟨congrArg some (List.map_congr_left fun t ht => (mate_pre hap D.fst b1 b2 (hl t ht) (e2 t ht)).symm), fun t ht => ?_⟩
      rw [mate_pre hap D.fst b1 b2 (hl t ht) (e2 t ht)]
      exact Nat.lt_of_lt_of_le (e2 t ht) b2.length_le
    · rw [show j = found.length by omega, List.getElem?_append_right (Nat.le_refl _), Nat.sub_self, getD_pre b2 h]
      exact ⟨rfl, b3⟩
  · rw [List.flatten_append, List.flatten_cons, List.flatten_nil, List.append_nil, ← List.cons_append, dd_app, ← D.met]
    exact b4.symm
/-- when all firsts have their rows, this is the least machine -/
theorem due_least (hap : ∀ p q, p < rows.length → q < rows.length → (ap p q = false ↔ Sim rows k ends p q)) (sq : Square rows k) {fs : List Nat} {found : List (List Nat)} (D : Due rows k ends ap fs found) (h : found.length = fs.length) :
    Least found k (endsAt fs ends) ∧ ∀ w : List Nat, (∀ a ∈ w, a < k) → (led found w 0 ∈ endsAt fs ends ↔ led rows w 0 ∈ ends) := by
  have F := D.fst
  have row : ∀ j, j < fs.length → rowOf found j = (rowOf rows (fs.getD j 0)).map (mateOf ap fs) := fun j hj => by
    unfold rowOf
    rw [List.getD_eq_getElem?_getD, (D.each j (by omega)).1]
    rfl
  have z0 : 0 < fs.length := (List.getElem?_eq_some_iff.mp F.zero).1
  have g0 : fs.getD 0 0 = 0 := by rw [List.getD_eq_getElem?_getD, F.zero]; rfl
  have mem : ∀ r ∈ found, ∃ j, j < fs.length ∧ r = (rowOf rows (fs.getD j 0)).map (mateOf ap fs) := fun r hr => by
    obtain ⟨j, hj, e⟩ := List.getElem_of_mem hr
    have e1 := (D.each j hj).1
    rw [List.getElem?_eq_getElem hj, e] at e1
    exact ⟨j, by omega, Option.some.inj e1⟩
  have nd : fs.length ≤ rows.length := by
    refine nodup_lt rows.length fs ?_ F.lt
    rw [List.nodup_iff_pairwise_ne, List.pairwise_iff_getElem]
    intro i j hi hj hij e
    have q : i = j := F.apart i j hi hj (by
      rw [List.getD_eq_getElem?_getD, List.getD_eq_getElem?_getD, List.getElem?_eq_getElem hi, List.getElem?_eq_getElem hj, Option.getD_some, Option.getD_some, e]
      exact .refl _)
    omega
  have sqf : Square found k := by
    refine ⟨by omega, Nat.le_trans (by omega) sq.few, fun r hr => ?_, sq.thin, fun r hr t ht => ?_⟩
    · obtain ⟨j, hj, rfl⟩ := mem r hr
      rw [List.length_map, width sq (F.lt _ (getD_mem hj))]
    · obtain ⟨j, hj, rfl⟩ := mem r hr
      obtain ⟨u, hu, rfl⟩ := List.mem_map.mp ht
      rw [h]
      exact (D.each j (by omega)).2 u hu
  -- where a word leads
  have go : ∀ (w : List Nat) (j s : Nat), (∀ a ∈ w, a < k) → j < fs.length → s < rows.length → Sim rows k ends (fs.getD j 0) s → led found w j < fs.length ∧ Sim rows k ends (fs.getD (led found w j) 0) (led rows w s) := by
    intro w
    induction w with
    | nil => exact fun j s _ hj _ hs => ⟨hj, hs⟩
    | cons a w ih =>
      intro j s hw hj hsn hs
      have ha := hw a (List.mem_cons_self ..)
      have hfj := F.lt _ (getD_mem hj)
      have e : nextOf found a j = mateOf ap fs (nextOf rows a (fs.getD j 0)) := map_next (row j hj) (by rw [width sq hfj]; exact ha)
      have hm := (D.each j (by omega)).2 _ (next_mem sq hfj ha)
      rw [led_cons, led_cons, e]
      have nl := next_lt sq ha hfj
      refine ih _ _ (fun b hb => hw b (List.mem_cons_of_mem _ hb)) hm (next_lt sq ha hsn) ?_
      exact (mate_lt hap F nl hm).trans (hs.next ha)
  have sim_end : ∀ {p q : Nat}, Sim rows k ends p q → (p ∈ ends ↔ q ∈ ends) := fun s => s [] fun a ha => nomatch ha
  have lang : ∀ (w : List Nat) (j s : Nat), (∀ a ∈ w, a < k) → j < fs.length → s < rows.length → Sim rows k ends (fs.getD j 0) s → (led found w j ∈ endsAt fs ends ↔ led rows w s ∈ ends) := fun w j s hw hj hsn hs => by
    obtain ⟨g1, g2⟩ := go w j s hw hj hsn hs
    rw [mem_endsAt g1]
    exact sim_end g2
  refine ⟨⟨sqf, ⟨?_, fun x hx => ?_⟩, fun p q hp hq s => ?_, ?_⟩, fun w hw => lang w 0 0 hw z0 sq.some (by rw [g0]; exact .refl 0)⟩
  · rw [h]
    have e := D.met
    have e2 : found.flatten = (List.range fs.length).flatMap (rowOf found) := by
      rw [List.flatMap_def]
      congr 1
      apply List.ext_getElem?
      intro i
      rw [List.getElem?_map]
      by_cases c : i < found.length
      · rw [rowOf_at c, List.getElem?_range (by omega)]
        rfl
      · rw [List.getElem?_eq_none (by omega), List.getElem?_eq_none (by rw [List.length_range]; omega)]
        rfl
    rw [e2] at e
    exact e
  · have hx' : x < fs.length := by rw [h] at hx; exact List.mem_range.mp hx
    obtain ⟨w, h1, h2⟩ := F.got _ (getD_mem hx')
    obtain ⟨g1, g2⟩ := go w 0 0 h1 z0 sq.some (by rw [g0]; exact .refl 0)
    rw [h2] at g2
    exact ⟨w, h1, F.apart _ _ g1 hx' g2⟩
  · rw [h] at hp hq
    refine F.apart p q hp hq fun w hw => ?_
    rw [← lang w p _ hw hp (F.lt _ (getD_mem hp)) (.refl _), ← lang w q _ hw hq (F.lt _ (getD_mem hq)) (.refl _)]
    exact s w hw
  · rw [h]
    unfold endsAt
    exact List.filter_congr fun x hx => decide_eq_decide.mpr ⟨fun c => List.mem_filter.mpr ⟨hx, decide_eq_true c⟩, fun c => of_decide_eq_true (List.mem_filter.mp c).2⟩
end
end Vf

set_option Elab.async false
set_option linter.all false
set_option maxRecDepth 100000
set_option maxHeartbeats 1000000
namespace Vf
open PySem PySem.Spec PyProof.Rows L2 L2.Vx
/-! ### a table of pairs that texts part; machines with other numbers -/
/-- a table that has the pairs whose answers differ, that no letter leads into from outside, and that has no pair which no text parts -/
theorem parted_sim {rows : List (List Nat)} {k : Nat} {ends : List Nat} (sq : Square rows k) {T : Nat → Nat → Prop} (h0 : ∀ p q, p < rows.length → q < rows.length → ¬ (p ∈ ends ↔ q ∈ ends) → T p q)
    (hc : ∀ p q a, p < rows.length → q < rows.length → a < k → T (nextOf rows a p) (nextOf rows a q) → T p q) (hs : ∀ p q, T p q → ¬ Sim rows k ends p q) {p q : Nat} (hp : p < rows.length) (hq : q < rows.length) : ¬ T p q ↔ Sim rows k ends p q := by
  refine ⟨fun n w => ?_, fun s t => hs p q t s⟩
  induction w generalizing p q with
  | nil => exact fun _ => Classical.byContradiction fun c => n (h0 p q hp hq c)
  | cons a w ih =>
    intro hw
    have ha := hw a (List.mem_cons_self ..)
    exact ih (next_lt sq ha hp) (next_lt sq ha hq) (fun t => n (hc p q a hp hq ha t)) fun b hb => hw b (List.mem_cons_of_mem _ hb)
/-- pairs whose answers differ are parted; so are pairs that a letter leads to such -/
theorem parted_ends {rows : List (List Nat)} {k : Nat} {ends : List Nat} {p q : Nat} (h : ¬ (p ∈ ends ↔ q ∈ ends)) : ¬ Sim rows k ends p q := fun s => h (s [] fun a ha => nomatch ha)
theorem parted_next {rows : List (List Nat)} {k : Nat} {ends : List Nat} {p q a : Nat} (ha : a < k) (h : ¬ Sim rows k ends (nextOf rows a p) (nextOf rows a q)) : ¬ Sim rows k ends p q := fun s => h (s.next ha)
/-- a machine whose states stand for those of another one -/
structure Stands (A B : List (List Nat)) (k : Nat) (eA eB : List Nat) (π : Nat → Nat) : Prop where
  zero : π 0 = 0
  lt : ∀ i, i < B.length → π i < A.length
  next : ∀ i a, i < B.length → a < k → π (nextOf B a i) = nextOf A a (π i)
  ends : ∀ i, i < B.length → (i ∈ eB ↔ π i ∈ eA)
theorem Stands.led {A B : List (List Nat)} {k : Nat} {eA eB : List Nat} {π : Nat → Nat} (S : Stands A B k eA eB π) (sq : Square B k) : ∀ (w : List Nat) (i : Nat), (∀ a ∈ w, a < k) → i < B.length → π (Vf.led B w i) = Vf.led A w (π i)
  | [], _, _, _ => rfl
  | a :: w, i, h, hi => by
    have ha := h a (List.mem_cons_self ..)
    rw [led_cons, led_cons, S.led sq w _ (fun b hb => h b (List.mem_cons_of_mem _ hb)) (next_lt sq ha hi), S.next i a hi ha]
theorem Stands.same {A B : List (List Nat)} {k : Nat} {eA eB : List Nat} {π : Nat → Nat} (S : Stands A B k eA eB π) (sq : Square B k) (w : List Nat) (hw : ∀ a ∈ w, a < k) : Vf.led B w 0 ∈ eB ↔ Vf.led A w 0 ∈ eA := by
  rw [S.ends _ (led_lt sq w 0 hw sq.some), S.led sq w 0 hw sq.some, S.zero]
theorem Stands.trans {A B D : List (List Nat)} {k : Nat} {eA eB eD : List Nat} {π ρ : Nat → Nat} (S : Stands A B k eA eB π) (R : Stands B D k eB eD ρ) : Stands A D k eA eD (fun i => π (ρ i)) :=
  ⟨by rw [R.zero, S.zero], fun i hi => S.lt _ (R.lt i hi), fun i a hi ha => by rw [R.next i a hi ha, S.next _ a (R.lt i hi) ha], fun i hi => (R.ends i hi).trans (S.ends _ (R.lt i hi))⟩
/-- two machines beside each other: the states of the second one come behind -/
def behind (A B : List (List Nat)) : List (List Nat) := A ++ B.map fun r => r.map fun t => t + A.length
theorem behind_len (A B : List (List Nat)) : (behind A B).length = A.length + B.length := by unfold behind; rw [List.length_append, List.length_map]
theorem behind_sq {A B : List (List Nat)} {k : Nat} (sA : Square A k) (sB : Square B k) (few : A.length + B.length ≤ 1000) : Square (behind A B) k := by
  refine ⟨by rw [behind_len]; have := sA.some; omega, by rw [behind_len]; exact few, fun r hr => ?_, sA.thin, fun r hr t ht => ?_⟩
  · rcases List.mem_append.mp hr with h | h
    · exact sA.wide r h
    · obtain ⟨r', h', rfl⟩ := List.mem_map.mp h
      rw [List.length_map]
      exact sB.wide r' h'
  · rw [behind_len]
    rcases List.mem_append.mp hr with h | h
    · have := sA.inn r h t ht
      omega
    · obtain ⟨r', h', rfl⟩ := List.mem_map.mp h
      obtain ⟨t', h2, rfl⟩ := List.mem_map.mp ht
      have := sB.inn r' h' t' h2
      omega
theorem behind_row {A B : List (List Nat)} {i : Nat} (hi : i < B.length) : rowOf (behind A B) (A.length + i) = (rowOf B i).map fun t => t + A.length := by
  unfold rowOf behind
  rw [List.getD_eq_getElem?_getD, List.getElem?_append_right (by omega), Nat.add_sub_cancel_left, List.getElem?_map, rowOf_at hi]
  rfl
theorem behind_row0 {A B : List (List Nat)} {i : Nat} (hi : i < A.length) : rowOf (behind A B) i = rowOf A i := by
  unfold rowOf behind
  rw [List.getD_eq_getElem?_getD, List.getElem?_append_left hi, rowOf_at hi]
  rfl
theorem led_behind0 {A B : List (List Nat)} {k : Nat} (sA : Square A k) : ∀ (w : List Nat) (i : Nat), (∀ a ∈ w, a < k) → i < A.length → led (behind A B) w i = led A w i
  | [], _, _, _ => rfl
  | a :: w, i, h, hi => by
    have ha := h a (List.mem_cons_self ..)
    have e : nextOf (behind A B) a i = nextOf A a i := by unfold nextOf; rw [behind_row0 hi]
    rw [led_cons, led_cons, e]
    exact led_behind0 sA w _ (fun b hb => h b (List.mem_cons_of_mem _ hb)) (next_lt sA ha hi)
theorem led_behind {A B : List (List Nat)} {k : Nat} (sB : Square B k) : ∀ (w : List Nat) (i : Nat), (∀ a ∈ w, a < k) → i < B.length → led (behind A B) w (A.length + i) = A.length + led B w i
  | [], _, _, _ => rfl
  | a :: w, i, h, hi => by
    have ha := h a (List.mem_cons_self ..)
    have e : nextOf (behind A B) a (A.length + i) = A.length + nextOf B a i := by
      rw [map_next (behind_row hi) (by rw [width sB hi]; exact ha), Nat.add_comm]
    rw [led_cons, led_cons, e]
    exact led_behind sB w _ (fun b hb => h b (List.mem_cons_of_mem _ hb)) (next_lt sB ha hi)
/-- no text parts the two first states exactly if both have the same language -/
theorem behind_sim {A B : List (List Nat)} {k : Nat} {eA eB : List Nat} (sA : Square A k) (sB : Square B k) (hA : ∀ x ∈ eA, x < A.length) :
    Sim (behind A B) k (eA ++ eB.map fun x => x + A.length) 0 A.length ↔ ∀ w : List Nat, (∀ a ∈ w, a < k) → (led A w 0 ∈ eA ↔ led B w 0 ∈ eB) := by
  have m1 : ∀ x, x < A.length → (x ∈ eA ++ (eB.map fun x => x + A.length) ↔ x ∈ eA) := fun x hx => by
    rw [List.mem_append]
    refine ⟨fun h => h.elim id fun h => ?_, .inl⟩
    obtain ⟨y, _, e⟩ := List.mem_map.mp h
    omega
  have m2 : ∀ x, A.length + x ∈ eA ++ (eB.map fun x => x + A.length) ↔ x ∈ eB := fun x => by
    rw [List.mem_append]
    refine ⟨fun h => h.elim (fun h => ?_) fun h => ?_, fun h => .inr (List.mem_map.mpr ⟨x, h, Nat.add_comm _ _⟩)⟩
    · have := hA _ h
      omega
    · obtain ⟨y, hy, e⟩ := List.mem_map.mp h
      rw [show x = y by omega]
      exact hy
  have each : ∀ w : List Nat, (∀ a ∈ w, a < k) → ((led (behind A B) w 0 ∈ eA ++ (eB.map fun x => x + A.length) ↔ led (behind A B) w A.length ∈ eA ++ (eB.map fun x => x + A.length)) ↔ (led A w 0 ∈ eA ↔ led B w 0 ∈ eB)) := fun w hw => by
    have e := led_behind (A := A) sB w 0 hw sB.some
    rw [Nat.add_zero] at e
    rw [led_behind0 sA w 0 hw sA.some, e, m1 _ (led_lt sA w 0 hw sA.some), m2]
  exact ⟨fun h w hw => (each w hw).mp (h w hw), fun h w hw => (each w hw).mpr (h w hw)⟩
end Vf

set_option Elab.async false
set_option linter.all false
set_option maxRecDepth 100000
set_option maxHeartbeats 4000000
namespace Vf
open PySem PySem.Spec PyProof.Rows L2 L2.Vx Vs
/-! ### state_behind -/
abbrev cp (x : Str) : List Nat := x.cps.toList
theorem sign_index {x : Str} {c : Nat} (h : c ∈ cp x) : ∃ rest, Builtin.Str.occurrences x ⟨#[c]⟩ 0 x.length 1 = (cp x).idxOf c :: rest := by
  have at_one : ∀ i, StrLaws.At x ⟨#[c]⟩ x.length i ↔ (cp x)[i]? = some c := fun i => StrLaws.subAt_one x c i
  rcases StrLaws.occ_head x ⟨#[c]⟩ 1 (Nat.le_refl _) with ⟨_, no⟩ | ⟨i, r, e, hi, no⟩
  · obtain ⟨j, hj⟩ := List.mem_iff_getElem?.mp h
    exact absurd ((at_one j).mpr hj) (no j)
  · refine ⟨r, ?_⟩
    have h1 := (at_one i).mp hi
    have hx := List.idxOf_lt_length_of_mem h
    have h2 : (cp x)[(cp x).idxOf c]? = some c := by
      rw [List.getElem?_eq_getElem hx]
      exact congrArg some (List.getElem_idxOf hx)
    have le1 : i ≤ (cp x).idxOf c := by
      rcases Nat.lt_or_ge ((cp x).idxOf c) i with z | z
      · exact absurd ((at_one _).mpr h2) (no _ z)
      · exact z
    have le2 : (cp x).idxOf c ≤ i := by
      obtain ⟨hi', e'⟩ := List.getElem?_eq_some_iff.mp h1
      rcases Nat.lt_or_ge i ((cp x).idxOf c) with z | z
      · have w := List.not_of_lt_findIdx (p := fun y => y == c) (xs := cp x) (i := i) z
        rw [e'] at w
        simp at w
      · exact z
    rw [e, Nat.le_antisymm le1 le2]
/-- a text's letters by their places -/
def lets (a x : Str) : List Nat := (cp x).map fun c => (cp a).idxOf c
theorem lets_lt {a x : Str} (h : ∀ c ∈ cp x, c ∈ cp a) : ∀ b ∈ lets a x, b < (cp a).length := fun b hb => by
  obtain ⟨c, hc, rfl⟩ := List.mem_map.mp hb
  exact List.idxOf_lt_length_of_mem (h c hc)
abbrev sBehind : Stmt := top 11
def spBehind (K : PySem.W.Frag) : Sp := fun vs H Q _ => ∃ (a x : Str) (v : V) (rows : List (List Nat)) (s : Nat), vs = [.str a, v, nI s, .str x] ∧ RowsAt K H v rows ∧ Square rows (cp a).length ∧ s < rows.length ∧ (∀ c ∈ cp x, c ∈ cp a) ∧ Q (nI (led rows (lets a x) s)) H
theorem led_snoc (rows : List (List Nat)) (w : List Nat) (a s : Nat) : led rows (w ++ [a]) s = nextOf rows a (led rows w s) := by
  unfold led
  rw [List.foldl_append]
  rfl
section
variable {P : Program} {w : World} {K : PySem.W.Frag} {mg : Str → Option Value} {base : Heap}
theorem scBehind : FnScope ["letters", "rows", "state", "text", "letter"] ["letters", "rows", "state", "text"] (defScope sBehind) := ⟨rfl, rfl, rfl, by decide +kernel, rfl, by decide +kernel, by decide +kernel⟩
theorem ok_behind {f : Addr} {fd : FuncData} (F : Fun K "state_behind" "state_behind" sBehind f fd) : FnOk P w K mg base CX0 1 f fd ["letters", "rows", "state", "text"] (spBehind K) := by
  refine F.ok scBehind (fun vs H Q E h => ?_) (fun cdv A outer s H vs Q E hr h => ?_)
  · obtain ⟨a, x, v, rows, st, rfl, _⟩ := h
    rfl
  obtain ⟨a, x, v, rows, st, rfl, hR, sq, hs, hx, q⟩ := h
  refine ⟨_, pss_cons (ps_for PassesOwn.never rfl (pi_str (pv 3)) (pg_name (i := 4) scBehind.nd rfl (Or.inl rfl))
      (pss_one (ps_set (i := 2) scBehind.nd rfl (Or.inl rfl) (pe_ix ix_tup (pe_ix ix_tup (pv 1) (pv 2) (fun _ _ => rfl)) (pe_bm PySem.F.plainAttrs_str PySem.F.slot_str_index PySem.F.type_str_index mt_sindex (pv 0) (pa_cons (pv 4) pa_nil)) (fun _ _ => rfl)))))
    (pss_one (ps_ret (pv 2))), ?_⟩
  refine ⟨_, rfl, x, rfl, ?_⟩
  refine for_it walk_str (fun i σ H' => H' = H ∧ ∃ v4 : Option V, σ = [some (.str a), some v, some (nI (led rows ((lets a x).take i) st)), some (.str x), v4]) ⟨rfl, none, rfl⟩ (fun _ _ _ _ _ => trivial) ?_ ?_
  · rintro i y σ H1 H2 hi ⟨rfl, v4, rfl⟩ ⟨rfl, c, hc, rfl⟩
    have hc' : (cp x)[i]? = some c := by rw [Array.getElem?_toList]; exact hc
    have hm := hx c (List.mem_of_getElem? hc')
    have hl : (lets a x)[i]? = some ((cp a).idxOf c) := by unfold lets; rw [List.getElem?_map, hc']; rfl
    have hlt := led_lt sq ((lets a x).take i) st (fun b hb => lets_lt hx b (List.mem_of_mem_take hb)) hs
    obtain ⟨va, bs, b, rfl, hva, hb, hrow⟩ := hR.row hlt
    obtain ⟨rest, ho⟩ := sign_index hm
    have hn := next_at (rows := rows) (a := (cp a).idxOf c) hlt fun r hr => by rw [sq.wide r hr]; exact List.idxOf_lt_length_of_mem hm
    refine ⟨_, rfl, _, rfl, va, bs, _, .ref b, rfl, rfl, hva, atI_nat hb, ?_⟩
    refine ⟨_, rfl, rfl, _, rfl, a, ⟨#[c]⟩, (cp a).idxOf c, rest, rfl, rfl, ho, b, _, _, nI (nextOf rows ((cp a).idxOf c) (led rows ((lets a x).take i) st)), rfl, rfl, hrow, atI_nat (by rw [List.getElem?_map, hn]; rfl), rfl, some (.str ⟨#[c]⟩), ?_⟩
    rw [List.take_add_one, hl]
    show _ = [_, _, some (nI (led rows (_ ++ [_]) st)), _, _]
    rw [led_snoc]
    rfl
  · rintro σ H1 ⟨rfl, v4, rfl⟩
    have e : (lets a x).take x.cps.size = lets a x := List.take_of_length_le (by unfold lets; rw [List.length_map, Array.length_toList]; exact Nat.le_refl _)
    rw [e]
    exact ⟨_, rfl, q⟩
end
end Vf

set_option Elab.async false
set_option linter.all false
set_option maxRecDepth 100000
set_option maxHeartbeats 4000000
namespace Vf
open PySem PySem.Spec PyProof.Rows L2 L2.Vx Vs
/-! ### what kind of value -/
def tyD : PyData → String
  | .none => "NoneType"
  | .bool _ => "bool"
  | .int _ => "int"
  | .str _ => "str"
  | .list _ => "list"
  | .tuple _ => "tuple"
  | .dict _ => "dict"
theorem dt_ty {K : PySem.W.Frag} {H : Hp} {S : Addr → Prop} {v : V} {D : PyData} (h : Dt H S v D) : TyX K H v (.type (tyD D)) := by
  cases h with
  | flat e =>
    cases v with
    | non => cases (show D = .none from e); exact .base .non
    | bl b => cases (show D = .bool b from e); exact .base (.bl b)
    | int i => cases (show D = .int i from e); exact .base (.int i)
    | str x => cases (show D = .str x from e); exact .base (.str x)
    | byt b => exact (show False from e).elim
    | flt b => exact (show False from e).elim
    | ref b => exact (show False from e).elim
    | ty b => exact (show False from e).elim
  | lst e _ _ => exact .base (.lst e)
  | tup e _ _ => exact .base (.tup e)
  | dct e _ _ => exact .base (.dK e)
/-- isinstance of such a value, one of four types -/
def isD (n : String) (D : PyData) : Bool := (n == "int" && tyD D == "bool") || tyD D == n
theorem kitTab : ∀ a ∈ ["NoneType", "bool", "int", "str", "list", "tuple", "dict"], ∀ n ∈ ["int", "bool", "str", "tuple"], kitB a n = some ((n == "int" && a == "bool") || a == n) := by decide +kernel
theorem tyD_mem (D : PyData) : tyD D ∈ ["NoneType", "bool", "int", "str", "list", "tuple", "dict"] := by
  cases D <;> simp [tyD]
theorem kit_D {K : PySem.W.Frag} (D : PyData) {n : String} (hn : n = "int" ∨ n = "bool" ∨ n = "str" ∨ n = "tuple") : PySem.W.kitOne K (.type (tyD D)) (.type n) = some (isD n D) :=
  kit_ty (kitTab _ (tyD_mem D) n (by rcases hn with rfl | rfl | rfl | rfl <;> simp))
def isStateD (m : Nat) : PyData → Bool
  | .int i => decide (0 ≤ i) && decide (i < m)
  | _ => false
def isRowD (k m : Nat) : PyData → Bool
  | .tuple ds => decide (ds.length = k) && ds.all (isStateD m)
  | _ => false
def isRowsD (k : Nat) : PyData → Bool
  | .tuple ds => decide (0 < ds.length) && ds.all (isRowD k ds.length)
  | _ => false
abbrev sWhole : Stmt := top 2
abbrev sState : Stmt := top 5
abbrev sRow : Stmt := top 6
abbrev sRows : Stmt := top 7
def isInt : PyData → Bool
  | .int _ => true
  | _ => false
/-- a def that asks one thing of any value, with numbers behind it -/
def spAsk (g : PyData → Bool) : Sp := fun vs H Q _ => ∃ (v : V) (D : PyData) (S : Addr → Prop), vs = [v] ∧ Dt H S v D ∧ ∀ H', Same H H' → Q (.bl (g D)) H'
def spAsk1 (g : Nat → PyData → Bool) : Sp := fun vs H Q _ => ∃ (v : V) (D : PyData) (S : Addr → Prop) (m : Nat), vs = [v, nI m] ∧ Dt H S v D ∧ ∀ H', Same H H' → Q (.bl (g m D)) H'
def spAsk2 (g : Nat → Nat → PyData → Bool) : Sp := fun vs H Q _ => ∃ (v : V) (D : PyData) (S : Addr → Prop) (m n : Nat), vs = [v, nI m, nI n] ∧ Dt H S v D ∧ n ≤ 100000 ∧ (∀ ds, D = .tuple ds → ds.length ≤ 100000) ∧ ∀ H', Same H H' → Q (.bl (g m n D)) H'
structure TxtI (mg : Str → Option Value) : Prop where
  isi : mg "isinstance" = none
  int : mg "int" = none
  bool : mg "bool" = none
  tuple : mg "tuple" = none
  len : mg "len" = none
  all : mg "all" = none
section
variable {P : Program} {w : World} {K : PySem.W.Frag} {mg : Str → Option Value} {base : Heap}
theorem scWhole : FnScope ["thing"] ["thing"] (defScope sWhole) := ⟨rfl, rfl, rfl, by decide +kernel, rfl, by decide +kernel, by decide +kernel⟩
theorem ok_whole {f : Addr} {fd : FuncData} (F : Fun K "is_whole" "is_whole" sWhole f fd) (T : TxtI mg) : FnOk P w K mg base CX0 1 f fd ["thing"] (spAsk isInt) := by
  refine F.ok scWhole (fun vs H Q E h => ?_) (fun cdv A outer s H vs Q E hr h => ?_)
  · obtain ⟨v, D, S, rfl, _⟩ := h
    rfl
  obtain ⟨v, D, S, rfl, hd, q⟩ := h
  refine ⟨_, pss_one (ps_ret (pe_and (pe_callB call_isi (by rfl) T.isi (by decide +kernel) (pa_cons (pv 0) (pa_cons (pe_bltn (v := .ty "int") (u := .type "int") (by rfl) T.int (by decide +kernel) rfl) pa_nil)))
      (pe_one (pe_not (pe_callB call_isi (by rfl) T.isi (by decide +kernel) (pa_cons (pv 0) (pa_cons (pe_bltn (v := .ty "bool") (u := .type "bool") (by rfl) T.bool (by decide +kernel) rfl) pa_nil))))))), ?_⟩
  have t := dt_ty (K := K) hd
  have q' := q H (Same.refl H)
  refine ⟨_, rfl, _, _, _, _, _, rfl, .ty _, t, kit_D D (.inl rfl), _, rfl, ?_⟩
  cases D <;> first
    | exact q'
    | exact ⟨_, rfl, _, _, _, _, _, rfl, .ty _, t, kit_D _ (.inr (.inl rfl)), _, rfl, q'⟩
theorem scState : FnScope ["thing", "many"] ["thing", "many"] (defScope sState) := ⟨rfl, rfl, rfl, by decide +kernel, rfl, by decide +kernel, by decide +kernel⟩
theorem ok_state {f fW : Addr} {fd fdW : FuncData} (F : Fun K "is_state" "is_state" sState f fd) (GW : FnOk P w K mg base CX0 1 fW fdW ["thing"] (spAsk isInt)) (bW : Binds K fdW ["thing"] []) (kW : PySem.W.keepIn K (.ref fW) = true) (mW : mg "is_whole" = some (.ref fW)) :
    FnOk P w K mg base CX0 2 f fd ["thing", "many"] (spAsk1 isStateD) := by
  refine F.ok scState (fun vs H Q E h => ?_) (fun cdv A outer s H vs Q E hr h => ?_)
  · obtain ⟨v, D, S, m, rfl, _⟩ := h
    rfl
  obtain ⟨v, D, S, m, rfl, hd, q⟩ := h
  refine ⟨_, pss_one (ps_ret (pe_and (pe_call GW hr rfl mW kW bW .nil pass0 (pa_cons (pv 0) pa_nil)) (pe_one (pe_chain op_le op_lt pe_int (pv 0) (pv 1))))), ?_⟩
  refine ⟨_, rfl, v, D, S, rfl, hd, fun H1 s1 => ⟨_, rfl, ?_⟩⟩
  have q' := q H1 s1
  cases hd with
  | flat e =>
    cases v with
    | non => cases (show D = .none from e); exact q'
    | bl b => cases (show D = .bool b from e); exact q'
    | int i =>
      cases (show D = .int i from e)
      refine ⟨_, rfl, _, _, rfl, rfl, _, rfl, ?_⟩
      refine ite2 (fun c => ⟨_, rfl, _, _, rfl, rfl, ?_⟩) (fun c => ?_)
      · have e2 : isStateD m (.int i) = decide (i < (m : Int)) := by show (decide (0 ≤ i) && _) = _; rw [c, Bool.true_and]
        rw [e2] at q'
        exact q'
      · have e2 : isStateD m (.int i) = false := by
          show (decide (0 ≤ i) && _) = _
          cases z : decide (0 ≤ i) with
          | false => rfl
          | true => exact absurd z c
        rw [e2] at q'
        exact q'
    | str x => cases (show D = .str x from e); exact q'
    | byt b => exact (show False from e).elim
    | flt b => exact (show False from e).elim
    | ref b => exact (show False from e).elim
    | ty b => exact (show False from e).elim
  | lst _ _ _ => exact q'
  | tup _ _ _ => exact q'
  | dct _ _ _ => exact q'
end
end Vf

set_option Elab.async false
set_option linter.all false
set_option maxRecDepth 100000
set_option maxHeartbeats 4000000
namespace Vf
open PySem PySem.Spec PyProof.Rows L2 L2.Vx
/-! ### least_machine once more: its parts as data, and that they are the least ones -/
def natsT (ns : List Nat) : PyData := .tuple (ns.map fun n => .int (n : Nat))
def rowsT (rows : List (List Nat)) : PyData := .tuple (rows.map natsT)
theorem dtA_nats {H : Hp} {S : Addr → Prop} : ∀ ns : List Nat, DtAll H S (ns.map nI) (ns.map fun n => .int (n : Nat))
  | [] => .nil
  | n :: r => .cons (.flat rfl) (dtA_nats r)
theorem dtA_rows {H : Hp} : ∀ (ts : List Addr) (rows : List (List Nat)), ts.length = rows.length → (∀ (j : Nat) (t : Addr), ts[j]? = some t → H t = some (.tup ((rows.getD j []).map nI))) → DtAll H (fun _ => True) (ts.map V.ref) (rows.map natsT)
  | [], [], _, _ => .nil
  | [], _ :: _, h, _ => nomatch h
  | _ :: _, [], h, _ => nomatch h
  | t :: ts, r :: rows, h, e => by
    refine .cons (.tup (e 0 t rfl) trivial (dtA_nats r)) (dtA_rows ts rows (Nat.succ.inj h) fun j u hj => ?_)
    have z := e (j + 1) u (by simpa using hj)
    simpa using z
def spLeastL (K : PySem.W.Frag) : Sp := fun vs H Q _ => ∃ (v e : V) (rows : List (List Nat)) (ends : List Nat) (k : Nat), vs = [v, e] ∧ RowsAt K H v rows ∧ TupN K H e ends ∧ Square rows k ∧ (∀ x ∈ ends, x < rows.length) ∧
  ∀ t a b rows' ends' H', Same H H' → H t = none → H' t = some (.tup [a, b]) → Least rows' k ends' → (∀ w : List Nat, (∀ a ∈ w, a < k) → (led rows' w 0 ∈ ends' ↔ led rows w 0 ∈ ends)) →
    Dt H' (fun _ => True) a (rowsT rows') → Dt H' (fun _ => True) b (natsT ends') → Q (.ref t) H'
section
variable {P : Program} {w : World} {K : PySem.W.Frag} {mg : Str → Option Value} {base : Heap}
theorem ok_leastL {f fF fT fC : Addr} {fd fdF fdT fdC : FuncData} (F : Fun K "least_machine" "least_machine" sLeast f fd) (T : TxtM mg)
    (GF : FnOk P w K mg base CX0 1 fF fdF ["many", "ends"] (spFlags K)) (bF : Binds K fdF ["many", "ends"] []) (kF : PySem.W.keepIn K (.ref fF) = true) (mF : mg "end_flags" = some (.ref fF))
    (GT : FnOk P w K mg base CX0 2 fT fdT ["rows", "ends", "start"] (spStarted K)) (bT : Binds K fdT ["rows", "ends", "start"] []) (kT : PySem.W.keepIn K (.ref fT) = true) (mT : mg "started_at" = some (.ref fT))
    (GC : FnOk P w K mg base CX0 2 fC fdC ["rows", "ends"] (spCls K)) (bC : Binds K fdC ["rows", "ends"] []) (kC : PySem.W.keepIn K (.ref fC) = true) (mC : mg "classes_of" = some (.ref fC)) :
    FnOk P w K mg base CX0 3 f fd ["rows", "ends"] (spLeastL K) := by
  refine F.ok scLeast (fun vs H Q E h => ?_) (fun cdv A outer s H vs Q E hr h => ?_)
  · obtain ⟨v, e, rows, ends, k, rfl, _⟩ := h
    rfl
  obtain ⟨v, e, rows, ends, k, rfl, hR, hE, sq, hel, q⟩ := h
  have hu := hu_of hr
  have hr1 : Room 1 _ := hr.mono (by decide)
  refine ⟨_, pss_cons (ps_asg (pe_call GT hr rfl mT kT bT .nil pass0 (pa_cons (pv 0) (pa_cons (pv 1) (pa_cons pe_int pa_nil)))) (pg_tup rfl (pgs_cons (pg_name (i := 0) scLeast.nd rfl (Or.inr rfl)) (pgs_cons (pg_name (i := 1) scLeast.nd rfl (Or.inl rfl)) pgs_nil))))
    (pss_cons (ps_set (i := 2) scLeast.nd rfl (Or.inr rfl) (pe_call GC hr rfl mC kC bC .nil pass0 (pa_cons (pv 0) (pa_cons (pv 1) pa_nil))))
    (pss_cons (ps_set (i := 3) scLeast.nd rfl (Or.inr rfl) pe_dnewK)
    (pss_cons (ps_set (i := 4) scLeast.nd rfl (Or.inl rfl) (pe_lst pa_nil))
    (pss_cons (ps_for PassesOwn.never rfl (pi_enum (by rfl) T.enu (pa_cons (pv 2) pa_nil)) (pg_tup rfl (pgs_cons (pg_name (i := 5) scLeast.nd rfl (Or.inl rfl)) (pgs_cons (pg_name (i := 6) scLeast.nd rfl (Or.inl rfl)) pgs_nil)))
      (pss_one (ps_if (pt_cmp (pc_dnotin hu (pv 6) (pv 3))) (pss_cons (ps_dput hu (pv 3) (pv 6) (pe_callB call_len_seq (by rfl) T.len PySem.boot_len (pa_cons (pv 4) pa_nil)) rfl)
        (pss_one (ps_expr (pe_bm PySem.F.plainAttrs_list PySem.F.slot_list_append PySem.F.type_list_append mt_append (pv 4) (pa_cons (pv 5) pa_nil))))) pss_nil)))
    (pss_cons (ps_set (i := 7) scLeast.nd rfl (Or.inr rfl) (pe_call GF hr1 rfl mF kF bF .nil pass0 (pa_cons (pe_callB call_len_seq (by rfl) T.len PySem.boot_len (pa_cons (pv 0) pa_nil)) (pa_cons (pv 1) pa_nil))))
    (pss_cons (ps_set (i := 8) scLeast.nd rfl (Or.inl rfl) (pe_callTy call_tuple_of (by rfl) T.tuple (by decide +kernel) (pa_cons (pe_lc (own := [("state", 5)]) (g := gName 5) (tt := tYes) rfl scLeast.nd (pi_list (pv 4))
        (blkOk_by (N := nLeast) (sc := defScope sLeast) (by decide +kernel)) (fun _ _ _ _ _ => pg_name (i := 5) scLeast.nd rfl (Or.inl rfl)) (fun _ _ _ _ _ => pts_nil)
        (fun _ _ _ _ _ => by exact pe_callTy (tupOf_at (K := K) rfl) (by rfl) T.tuple (by decide +kernel) (pa_cons (pe_lc (own := [("target", 9)]) (g := gName 9) (tt := tYes) rfl scLeast.nd (piT_at (K := K) rfl (pe_ix (ixT_at (K := K) rfl) (pv 0) (pv 5) (fun _ _ => rfl)))
          (blkOk_by (N := nLeast) (sc := scIn2) (by decide +kernel)) (fun _ _ _ _ _ => pg_name (i := 9) scLeast.nd rfl (Or.inl rfl)) (fun _ _ _ _ _ => pts_nil)
          (fun _ _ _ _ _ => by exact pe_dget hu (pv 3) (pe_ix (ixL_at (K := K) rfl) (pv 2) (pv 9) (fun _ _ => rfl)) (fun _ _ => rfl))) pa_nil))) pa_nil)))
    (pss_one (ps_ret (pe_tup (pa_cons (pv 8) (pa_cons (pe_callTy call_tuple_of (by rfl) T.tuple (by decide +kernel) (pa_cons (pe_lc (own := [("number", 10), ("state", 5)]) (g := gTup K 2 (gCons (gName 10) (gCons (gName 5) gNil))) rfl scLeast.nd (pi_enum (by rfl) T.enu (pa_cons (pv 4) pa_nil))
        (blkOk_by (N := nLeast) (sc := defScope sLeast) (by decide +kernel)) (fun _ _ _ _ _ => by exact (pg_tup rfl (pgs_cons (pg_name (i := 10) scLeast.nd rfl (Or.inl rfl)) (pgs_cons (pg_name (i := 5) scLeast.nd rfl (Or.inl rfl)) pgs_nil))))
        (fun _ _ _ _ _ => by exact pts_one (pt_val (pe_ix (ixL_at (K := K) rfl) (pv 7) (pv 5) (fun _ _ => rfl)))) (fun _ _ _ _ _ => by exact pv 10)) pa_nil)) pa_nil))))))))))), ?_⟩
  have lead : ∀ cs : List Nat, cs.length = (renum rows (reach rows 0)).length → Hop.Ref (renum rows (reach rows 0)).length k (nextOf (renum rows (reach rows 0))) (fun x => x ∈ endsAt (reach rows 0) ends) (clsOf cs) →
      (∀ p q a, p < (renum rows (reach rows 0)).length → q < (renum rows (reach rows 0)).length → a < k → clsOf cs p = clsOf cs q → clsOf cs (nextOf (renum rows (reach rows 0)) a p) = clsOf cs (nextOf (renum rows (reach rows 0)) a q)) →
      Least (quotRows (renum rows (reach rows 0)) cs) k (endsAt (firstsOf cs) (endsAt (reach rows 0) ends)) ∧ ∀ w : List Nat, (∀ a ∈ w, a < k) → (led (quotRows (renum rows (reach rows 0)) cs) w 0 ∈ endsAt (firstsOf cs) (endsAt (reach rows 0) ends) ↔ led rows w 0 ∈ ends) :=
    fun cs hc rf st => ⟨made_least sq hc rf st, fun w hw => least_same sq hc rf st w hw⟩
  have sq1 := renum_square sq
  have l1 : (renum rows (reach rows 0)).length = (reach rows 0).length := List.length_map _
  have hel1 : ∀ x ∈ endsAt (reach rows 0) ends, x < (renum rows (reach rows 0)).length := fun x hx => by
    rw [l1]
    exact List.mem_range.mp (List.mem_filter.mp hx).1
  have end1 : (endsAt (reach rows 0) ends).Nodup := List.Pairwise.filter _ List.nodup_range
  have thin := sq.thin
  refine ⟨_, rfl, _, rfl, v, e, rows, ends, 0, rfl, hR, hE, sq.inn, hel, sq.some, sq.few, fun r hr => by rw [sq.wide r hr]; omega, fun t0 a1 b1 H1 s1 ht0 e1 hR1 hE1 => ?_⟩
  generalize renum rows (reach rows 0) = rows1 at *
  generalize endsAt (reach rows 0) ends = ends1 at *
  refine ⟨t0, _, rfl, SqT.of e1, rfl, _, _, rfl, _, _, rfl, rfl, ?_⟩
  refine ⟨_, rfl, _, rfl, a1, b1, rows1, ends1, k, rfl, hR1, hE1, sq1, hel1, end1, fun lc cs H2 s2 hlc ec cn rf stable => ?_⟩
  have few1 := sq1.few
  intro dn hdn
  have sd := same_new hdn (.dK [])
  have ed : upd H2 dn (.dK []) dn = some (.dK []) := upd_same
  show gName 3 _ _ (upd H2 dn (.dK [])) _
  generalize upd H2 dn (.dK []) = H3 at sd ed ⊢
  refine ⟨Nat.zero_le _, fun lf hlf => ?_⟩
  have sf := same_new hlf (.lst [])
  have ef : upd H3 lf (.lst []) lf = some (.lst []) := upd_same
  have ed' := sf _ _ ed
  have hlfH : H2 lf = none := sd.free hlf
  have hdlf : dn ≠ lf := ne_of_none ed hlf
  have s3 := sd.trans sf
  show gName 4 _ _ (upd H3 lf (.lst [])) _
  generalize upd H3 lf (.lst []) = H4 at ef ed' s3 ⊢
  clear sd sf ed
  have kd := fun i => keys_nodup cs i
  have kl : ∀ i, (keysOf cs i).length = (firstsTo cs i).length := fun i => List.length_map _
  have fl : ∀ i, (firstsTo cs i).length ≤ i := fun i => by
    unfold firstsTo
    have z := List.length_filter_le (isFirst cs) (List.range i)
    rw [List.length_range] at z
    exact z
  have hs : ∀ (o : List Nat) (t : Nat), o.Nodup → (valV (numK o) (Sum.inl (t : Int))).isSome = decide (t ∈ o) := fun o t nd => by
    by_cases c : t ∈ o
    · rw [num_at nd c, decide_eq_true c]; rfl
    · rw [num_none c, decide_eq_false c]; rfl
  refine ⟨_, rfl, lc, _, rfl, SqL.of (s3 _ _ ec), ?_⟩
  refine for_it (walk_enum (xs := cs.map nI)) (fun i σ H' => ∃ v5 v6 : Option V, σ = [some a1, some b1, some (.ref lc), some (.ref dn), some (.ref lf), v5, v6, none, none, none, none] ∧ H' dn = some (.dK (numK (keysOf cs i))) ∧ H' lf = some (.lst ((firstsTo cs i).map nI)) ∧ Same H2 H')
    ⟨none, none, rfl, ed', ef, s3⟩ (fun i σ H' _ ⟨_, _, _, _, _, s⟩ => s.seq (SqL.of ec)) ?_ ?_
  · rintro i x σ H5 H6 hi ⟨v5, v6, rfl, k1, k2, k3⟩ ⟨T1, x1, y1, rfl, hT, rfl, e1', e2⟩
    obtain rfl : V.int (i : Nat) = x1 := Option.some.inj e1'
    rw [List.length_map] at hi
    have e2' : some (nI (clsOf cs i)) = some y1 := by
      have z : (cs.map nI)[i]? = some y1 := e2
      rw [List.getElem?_map, getD_at hi] at z
      exact z
    obtain rfl : nI (clsOf cs i) = y1 := Option.some.inj e2'
    have sT := same_new hT (.tup [V.int (i : Nat), nI (clsOf cs i)])
    refine ⟨T1, _, rfl, SqT.of upd_same, rfl, _, _, rfl, _, _, rfl, rfl, ?_⟩
    have k1' := sT _ _ k1
    have k2' := sT _ _ k2
    have k3' := k3.trans sT
    show tIfS _ _ _ _ _ (upd H5 T1 (.tup [V.int (i : Nat), nI (clsOf cs i)]))
    generalize upd H5 T1 (.tup [V.int (i : Nat), nI (clsOf cs i)]) = H7 at k1' k2' k3' ⊢
    refine ⟨_, rfl, _, rfl, dn, _, rfl, DGet.k (k := Sum.inl (clsOf cs i : Int)) k1', _, rfl, ?_⟩
    rw [hs _ _ (kd i)]
    have big : (firstsTo cs i).length < sizeLine := Nat.lt_of_le_of_lt (fl i) (by rw [cn] at hi; exact Nat.lt_of_lt_of_le hi (Nat.le_trans few1 (by decide)))
    by_cases c : clsOf cs i ∈ keysOf cs i
    · rw [decide_eq_true c]
      have hf : isFirst cs i = false := by rw [isFirst_iff, decide_eq_true c]; rfl
      have n1 : firstsTo cs (i + 1) = firstsTo cs i := by rw [firstsTo_succ, if_neg (by rw [hf]; exact Bool.false_ne_true)]
      refine ⟨_, _, rfl, ?_, ?_, k3'⟩
      · unfold keysOf
        rw [n1]
        exact k1'
      · rw [n1]
        exact k2'
    · rw [decide_eq_false c]
      have hf : isFirst cs i = true := by rw [isFirst_iff, decide_eq_false c]; rfl
      have n1 : firstsTo cs (i + 1) = firstsTo cs i ++ [i] := by rw [firstsTo_succ, if_pos hf]
      refine ⟨_, rfl, lf, _, rfl, .inl (SqL.of k2'), _, rfl, _, rfl, dn, _, rfl, DPut.k (k := Sum.inl (clsOf cs i : Int)) k1' (by unfold numK; rw [List.length_map, List.length_range, kl]; exact big), ?_⟩
      rw [putK_new _ (num_none c), List.length_map]
      have k2'' : upd H7 dn (.dK (numK (keysOf cs i) ++ [((Sum.inl ((clsOf cs i : Nat) : Int) : Key), V.int ((firstsTo cs i).length : Int))])) lf = some (.lst ((firstsTo cs i).map nI)) := by rw [upd_ne hdlf.symm]; exact k2'
      refine ⟨_, rfl, .inl ⟨rfl, _, SqL.of k2''⟩, _, rfl, lf, _, _, rfl, rfl, k2'', by rw [List.length_map]; exact big, _, _, rfl, ?_, ?_, fun b u e' => ?_⟩
      · rw [upd_ne hdlf, upd_same]
        unfold keysOf
        rw [n1, List.map_append, List.map_cons, List.map_nil, numK_snoc, ← kl i]
      · rw [upd_same, n1, List.map_append]
        rfl
      · rw [upd_ne (ne_of_none e' hlfH), upd_ne (ne_of_none e' hdn)]
        exact k3' b u e'
  · rintro σ H5 ⟨v5, v6, rfl, k1, k2, k3⟩
    rw [List.length_map] at k1 k2
    have s5 : Same H1 H5 := s2.trans k3
    have hR5 := hR1.same s5
    have hE5 := hE1.same s5
    have elc := k3 _ _ ec
    obtain ⟨va, bs, rfl, hva, hbl, hrows⟩ := id hR5
    have fn : ∀ x ∈ firstsOf cs, x < rows1.length := fun x hx => by
      rw [← cn]
      exact List.mem_range.mp (List.mem_filter.mp hx).1
    have keym : ∀ t, t < rows1.length → clsOf cs t ∈ keysOf cs cs.length := fun t ht => by
      obtain ⟨x, h1, h2, _⟩ := first_has cs cs.length t (by rw [cn]; exact ht)
      exact List.mem_map.mpr ⟨x, h1, h2⟩
    have item : ∀ {i : Nat} {y : V}, ((firstsOf cs).map nI)[i]? = some y → ∃ h : i < (firstsOf cs).length, y = nI ((firstsOf cs).getD i 0) := fun {i y} e => by
      rw [List.getElem?_map] at e
      obtain ⟨t, ht, rfl⟩ := Option.map_eq_some_iff.mp e
      have hi := (List.getElem?_eq_some_iff.mp ht).1
      rw [getD_at hi] at ht
      exact ⟨hi, by rw [Option.some.inj ht]⟩
    have lo2 : (firstsOf cs).length < sizeLine := Nat.lt_of_le_of_lt (fl _) (by rw [cn]; exact Nat.lt_of_le_of_lt few1 (by decide))
    refine ⟨_, rfl, va, _, rfl, .inr hva, _, rfl, rows1.length, b1, ends1, by rw [hbl]; rfl, hE5, hel1, by omega, fun lg H6 s6 hlg g6 => ?_⟩
    have hR6 := hR5.same s6
    have kD := s6 _ _ k1
    have gl := s6 _ _ k2
    have elc6 := s6 _ _ elc
    refine ⟨_, rfl, lf, rfl, ⟨_, SqL.of gl⟩, fun D2 hD2 => ?_⟩
    have lr : (quotRows rows1 cs).length = (firstsOf cs).length := List.length_map _
    have getR : ∀ i, i < (firstsOf cs).length → (quotRows rows1 cs).getD i [] = (rowOf rows1 ((firstsOf cs).getD i 0)).map fun t => numOf cs t := fun i hi => by
      rw [List.getD_eq_getElem?_getD, show (quotRows rows1 cs)[i]? = some ((rowOf rows1 ((firstsOf cs).getD i 0)).map fun t => numOf cs t) by unfold quotRows; rw [List.getElem?_map, getD_at hi]; rfl]
      rfl
    refine lc_it (walk_list (xs := (firstsOf cs).map nI)) (fun i H' => ∃ ts : List Addr, H' D2 = some (.lst (ts.map V.ref)) ∧ ts.length = i ∧ (∀ (j : Nat) (t : Addr), ts[j]? = some t → H' t = some (.tup (((quotRows rows1 cs).getD j []).map nI))) ∧ Same H6 H')
      ⟨[], upd_same, rfl, (fun j t z => nomatch z), same_new hD2 _⟩ (fun i H' _ ⟨_, _, _, _, s⟩ => s.seq (SqL.of gl)) ?_ ?_
    · rintro i x H7 H8 hi ⟨ts, m1, m2, m3, m4⟩ ⟨rfl, hx⟩
      obtain ⟨hio, rfl⟩ := item hx
      have hmem : (firstsOf cs).getD i 0 ∈ firstsOf cs := List.mem_of_getElem? (getD_at hio)
      have hst := fn _ hmem
      obtain ⟨a', bs', b, ea, ha', hbs', hrow⟩ := hR6.row hst
      cases ea
      have hwid : (rowOf rows1 ((firstsOf cs).getD i 0)).length ≤ 1000 := by
        rw [sq1.wide _ (List.mem_of_getElem? (rowOf_at hst))]
        omega
      refine ⟨rfl, _, rfl, _, rfl, va, bs', _, .ref b, rfl, rfl, same_T m4 ha', atI_nat hbs', b, rfl, ⟨_, same_T m4 hrow⟩, fun D3 hD3 => ?_⟩
      refine lc_it (walk_tup (xs := (rowOf rows1 ((firstsOf cs).getD i 0)).map nI)) (fun j H' => H' D3 = some (.lst (((rowOf rows1 ((firstsOf cs).getD i 0)).take j).map fun t => nI (numOf cs t))) ∧ Same H8 H') ⟨upd_same, same_new hD3 _⟩ (fun j H' _ ⟨_, s⟩ => same_T s (same_T m4 hrow)) ?_ ?_
      · rintro j y H9 H10 hj ⟨n1, n2⟩ ⟨rfl, hy⟩
        rw [List.getElem?_map] at hy
        obtain ⟨t, ht, rfl⟩ := Option.map_eq_some_iff.mp hy
        have htn := rowOf_mem sq1.inn t (List.mem_of_getElem? ht)
        have hct : cs[t]? = some (clsOf cs t) := getD_at (by rw [cn]; exact htn)
        refine ⟨rfl, _, rfl, _, rfl, _, rfl, lc, _, _, nI (clsOf cs t), rfl, rfl, SqL.of (n2 _ _ (m4 _ _ elc6)), atI_nat (by rw [List.getElem?_map, hct]; rfl), dn, nI (numOf cs t), rfl, ?_, _, n1, ?_, ?_, fun b' u e' => ?_⟩
        · have z := num_at (kd cs.length) (keym t htn)
          unfold numOf
          rw [← z]
          exact DGet.k (k := Sum.inl (clsOf cs t : Int)) (n2 _ _ (m4 _ _ kD))
        · rw [List.length_map]
          exact Nat.lt_of_le_of_lt (List.length_take_le' _ _) (Nat.lt_of_le_of_lt hwid (by decide))
        · rw [upd_same, List.take_add_one, ht, List.map_append]
          rfl
        · rw [upd_ne (ne_of_none e' hD3)]
          exact n2 b' u e'
      · rintro H9 ⟨n1, n2⟩
        rw [List.length_map, List.take_length] at n1
        refine ⟨D3, _, rfl, .inl ⟨SqL.of n1, fun t ht => ?_⟩⟩
        have sT := same_new ht (.tup ((rowOf rows1 ((firstsOf cs).getD i 0)).map fun t => nI (numOf cs t)))
        have hD26 : H9 D2 = some (.lst (ts.map V.ref)) := n2 _ _ m1
        refine ⟨_, sT _ _ hD26, by rw [List.length_map, m2]; omega, ts ++ [t], by rw [upd_same, List.map_append]; rfl, by rw [List.length_append, m2]; rfl, fun j u hj => ?_, fun b' u e' => ?_⟩
        · rcases Nat.lt_or_ge j ts.length with c | c
          · rw [List.getElem?_append_left c] at hj
            have z := sT _ _ (n2 _ _ (m3 j u hj))
            rw [upd_ne (ne_of z (sT _ _ hD26) (by intro z; cases z))]
            exact z
          · rw [List.getElem?_append_right c] at hj
            have c0 : j - ts.length = 0 := by
              rcases Nat.eq_zero_or_pos (j - ts.length) with w | w
              · exact w
              · rw [List.getElem?_eq_none (by simp; omega)] at hj
                exact nomatch hj
            rw [c0] at hj
            obtain rfl : t = u := Option.some.inj hj
            obtain rfl : j = i := by omega
            rw [upd_ne (ne_of_none hD26 ht).symm, upd_same, getR j hio, List.map_map]
            rfl
        · rw [upd_ne (ne_of_none e' hD2)]
          exact sT _ _ (n2 _ _ (m4 b' u e'))
    · rintro H7 ⟨ts, m1, m2, m3, m4⟩
      rw [List.length_map] at m2
      refine ⟨D2, _, rfl, .inl ⟨SqL.of m1, fun tr htr => ?_⟩⟩
      have s4 := same_new htr (.tup (ts.map V.ref))
      have etr : upd H7 tr (.tup (ts.map V.ref)) tr = some (.tup (ts.map V.ref)) := upd_same
      have m3' := fun j t hj => s4 _ _ (m3 j t hj)
      have s34 := m4.trans s4
      show gName 8 _ _ (upd H7 tr (.tup (ts.map V.ref))) _
      generalize upd H7 tr (.tup (ts.map V.ref)) = H8 at s4 etr m3' s34 ⊢
      refine ⟨_, rfl, _, rfl, lf, _, rfl, SqL.of (s34 _ _ gl), fun D4 hD4 => ?_⟩
      refine lc_it walk_enum (fun i H' => H' D4 = some (.lst (((List.range i).filter fun j => decide ((firstsOf cs).getD j 0 ∈ ends1)).map nI)) ∧ Same H8 H') ⟨upd_same, same_new hD4 _⟩ (fun i H' _ ⟨_, s⟩ => s.seq (SqL.of (s34 _ _ gl))) ?_ ?_
      · rintro i x H9 H10 hi ⟨n1, n2⟩ ⟨T1, x1, y1, rfl, hT, rfl, e1', e2⟩
        obtain rfl : V.int (i : Nat) = x1 := Option.some.inj e1'
        obtain ⟨hio, rfl⟩ := item e2
        have hmem : (firstsOf cs).getD i 0 ∈ firstsOf cs := List.mem_of_getElem? (getD_at hio)
        have n1' := (upd_ne (o := .tup [V.int (i : Nat), nI ((firstsOf cs).getD i 0)]) (ne_of_none n1 hT)).trans n1
        have n2' := n2.trans (same_new hT (.tup [V.int (i : Nat), nI ((firstsOf cs).getD i 0)]))
        have hfl : ((flagsOf rows1.length ends1).map V.bl)[(firstsOf cs).getD i 0]? = some (.bl (decide ((firstsOf cs).getD i 0 ∈ ends1))) := by
          unfold flagsOf
          rw [List.getElem?_map, List.getElem?_map, List.getElem?_range (fn _ hmem)]
          rfl
        refine ⟨T1, _, rfl, SqT.of upd_same, rfl, _, _, rfl, _, _, rfl, rfl, rfl, _, rfl, _, rfl, lg, _, _, _, rfl, rfl, SqL.of (n2' _ _ (s34 _ _ g6)), atI_nat hfl, _, rfl, ?_⟩
        generalize upd H9 T1 (.tup [V.int (i : Nat), nI ((firstsOf cs).getD i 0)]) = H11 at n1' n2' ⊢
        refine ite2 (fun c => ⟨_, rfl, _, n1', ?_, ?_, fun b u e => ?_⟩) (fun c => ⟨?_, n2'⟩)
        · rw [List.length_map]
          refine Nat.lt_of_le_of_lt (List.length_filter_le _ _) ?_
          rw [List.length_range]
          omega
        · rw [upd_same, List.range_succ, List.filter_append, List.map_append]
          rw [show ([i].filter fun j => decide ((firstsOf cs).getD j 0 ∈ ends1)) = [i] by rw [List.filter_cons]; rw [if_pos c]; rfl]
          rfl
        · rw [upd_ne (ne_of_none e hD4)]
          exact n2' b u e
        · rw [n1', List.range_succ, List.filter_append]
          rw [show ([i].filter fun j => decide ((firstsOf cs).getD j 0 ∈ ends1)) = [] by rw [List.filter_cons]; rw [if_neg c]; rfl]
          rw [List.append_nil]
      · rintro H9 ⟨n1, n2⟩
        rw [List.length_map] at n1
        refine ⟨D4, _, rfl, .inl ⟨SqL.of n1, fun te hte => ⟨(by show 2 ≤ sizeLine; decide), fun t ht => ?_⟩⟩⟩
        have s7 := n2.trans (same_new hte (.tup ((endsAt (firstsOf cs) ends1).map nI)))
        have s8 := s7.trans (same_new ht (.tup [.ref tr, .ref te]))
        have base2 := (s1.trans s5).trans (s6.trans s34)
        have each : ∀ (j : Nat) (u : Addr), ts[j]? = some u → (upd (upd H9 te (.tup ((endsAt (firstsOf cs) ends1).map nI))) t (.tup [.ref tr, .ref te])) u = some (.tup (((quotRows rows1 cs).getD j []).map nI)) := fun j u hj => s8 _ _ (m3' j u hj)
        have ete : (upd (upd H9 te (.tup ((endsAt (firstsOf cs) ends1).map nI))) t (.tup [.ref tr, .ref te])) te = some (.tup ((endsAt (firstsOf cs) ends1).map nI)) := same_new ht _ _ _ upd_same
        obtain ⟨L1, L2⟩ := lead cs cn rf stable
        refine q t (.ref tr) (.ref te) _ _ _ (base2.trans s8) ((base2.trans s7).free ht) upd_same L1 L2 (.tup (s8 _ _ etr) trivial (dtA_rows ts _ (by rw [m2, lr]) each)) (.tup ete trivial (dtA_nats _))
end
end Vf

set_option Elab.async false
set_option linter.all false
set_option maxRecDepth 100000
set_option maxHeartbeats 4000000
namespace Vf
open PySem PySem.Spec PyProof.Rows L2 L2.Vx Vs
/-! ### rows -/
theorem dtA_len {H : Hp} {S : Addr → Prop} : ∀ {vs : List V} {ds : List PyData}, DtAll H S vs ds → vs.length = ds.length
  | _, _, .nil => rfl
  | _, _, .cons _ r => congrArg (· + 1) (dtA_len r)
theorem dtA_at {H : Hp} {S : Addr → Prop} : ∀ {vs : List V} {ds : List PyData}, DtAll H S vs ds → ∀ {i : Nat} {v : V}, vs[i]? = some v → ∃ d, ds[i]? = some d ∧ Dt H S v d
  | _, _, .cons h _, 0, _, e => ⟨_, rfl, (Option.some.inj e) ▸ h⟩
  | _, _, .cons _ r, _ + 1, _, e => dtA_at r (i := _) e
theorem dt_same {H H' : Hp} {S : Addr → Prop} {v : V} {d : PyData} (h : Dt H S v d) (s : Same H H') : Dt H' S v d := h.mono (fun a o _ e => s a o e) (fun _ _ z _ => z)
structure TxtR (mg : Str → Option Value) : Prop where
  all : mg "all" = none
  isi : mg "isinstance" = none
  tuple : mg "tuple" = none
  len : mg "len" = none
/-- whether a tuple has so many values, each a state -/
def spRow : Sp := fun vs H Q _ => ∃ (v : V) (D : PyData) (S : Addr → Prop) (m n : Nat), vs = [v, nI m, nI n] ∧ m ≤ 100000 ∧ Dt H S v D ∧ ∀ H', Same H H' → Q (.bl (isRowD m n D)) H'
section
variable {P : Program} {w : World} {K : PySem.W.Frag} {mg : Str → Option Value} {base : Heap}
theorem scRow : FnScope ["thing", "width", "many", "target"] ["thing", "width", "many"] (defScope sRow) := ⟨rfl, rfl, rfl, by decide +kernel, rfl, by decide +kernel, by decide +kernel⟩
theorem ok_row {f fS : Addr} {fd fdS : FuncData} (F : Fun K "is_row" "is_row" sRow f fd) (GS : FnOk P w K mg base CX0 2 fS fdS ["thing", "many"] (spAsk1 isStateD)) (bS : Binds K fdS ["thing", "many"] []) (kS : PySem.W.keepIn K (.ref fS) = true) (mS : mg "is_state" = some (.ref fS)) (T : TxtR mg) :
    FnOk P w K mg base CX0 3 f fd ["thing", "width", "many"] spRow := by
  refine F.ok scRow (fun vs H Q E h => ?_) (fun cdv A outer s H vs Q E hr h => ?_)
  · obtain ⟨v, D, S, m, n, rfl, _⟩ := h
    rfl
  obtain ⟨v, D, S, m, n, rfl, hm, hd, q⟩ := h
  refine ⟨_, pss_one (ps_ret (pe_and (pe_callB call_isi (by rfl) T.isi (by decide +kernel) (pa_cons (pv 0) (pa_cons (pe_bltn (v := .ty "tuple") (u := .type "tuple") (by rfl) T.tuple (by decide +kernel) rfl) pa_nil)))
      (pe_and (pe_cmpR op_eq (pe_callB call_len_seq (by rfl) T.len PySem.boot_len (pa_cons (pv 0) pa_nil)) (pv 1) (by rfl))
      (pe_one (pe_callB (cr_all rfl) (by rfl) T.all (by decide +kernel) (pa_cons (pe_lc (own := [("target", 3)]) (g := gName 3) (tt := tYes) rfl scRow.nd (pi_tup (pv 0))
        (blkOk_by (N := ["thing", "width", "many", "target"]) (sc := defScope sRow) (by decide +kernel)) (fun _ _ _ _ _ => pg_name (i := 3) scRow.nd rfl (Or.inl rfl)) (fun _ _ _ _ _ => pts_nil)
        (fun _ _ _ _ _ => by exact pe_call GS hr rfl mS kS bS .nil pass0 (pa_cons (pv 3) (pa_cons (pv 2) pa_nil)))) pa_nil)))))), ?_⟩
  refine ⟨_, rfl, _, _, _, _, _, rfl, .ty _, dt_ty hd, kit_D D (.inr (.inr (.inr rfl))), _, rfl, ?_⟩
  have q' := q H (Same.refl H)
  cases hd with
  | flat e =>
    cases v with
    | non => cases (show D = .none from e); exact q'
    | bl b => cases (show D = .bool b from e); exact q'
    | int i => cases (show D = .int i from e); exact q'
    | str x => cases (show D = .str x from e); exact q'
    | byt b => exact (show False from e).elim
    | flt b => exact (show False from e).elim
    | ref b => exact (show False from e).elim
    | ty b => exact (show False from e).elim
  | lst _ _ _ => exact q'
  | dct _ _ _ => exact q'
  | @tup a xs ds ea sa da =>
    have hl := dtA_len da
    clear q'
    have done0 : ∀ b, isRowD m n (.tuple ds) = b → ∀ H', Same H H' → Q (.bl b) H' := fun b e H' s' => e ▸ q H' s'
    refine ite2 (fun _ => ?_) (fun z => absurd (show isD "tuple" (PyData.tuple ds) = true from (by decide +kernel : (("tuple" == "int" && "tuple" == "bool") || "tuple" == "tuple") = true)) z)
    refine ⟨_, rfl, a, xs, rfl, .inr (SqT.of ea), _, rfl, rfl, _, rfl, ?_⟩
    have ew : decide (V.int (xs.length : Int) = nI m) = decide (ds.length = m) := by
      rw [Bool.eq_iff_iff, decide_eq_true_iff, decide_eq_true_iff, hl]
      exact ⟨fun z => Int.ofNat.inj (V.int.inj z), fun z => by rw [z]⟩
    rw [ew]
    refine ite2 (fun c => ?_) (fun c => done0 _ ?_ H (Same.refl H))
    · have c' : ds.length = m := of_decide_eq_true c
      refine ⟨_, rfl, a, rfl, ⟨xs, SqT.of ea⟩, fun D hD => ?_⟩
      refine lc_it walk_tup (fun i H' => H' D = some (.lst (((ds.take i).map (isStateD n)).map V.bl)) ∧ Same H H') ⟨upd_same, same_new hD _⟩ (fun i H' _ ⟨_, s'⟩ => SqT.of (s' _ _ ea)) ?_ ?_
      · rintro i v H1 H2 hi ⟨hv, sm⟩ y
        obtain ⟨e, hx⟩ := y
        subst e
        obtain ⟨d, hdd, dd⟩ := dtA_at da hx
        refine ⟨rfl, _, rfl, _, rfl, v, d, S, n, rfl, dt_same dd sm, fun H' s' => ⟨_, s' _ _ hv, ?_, ?_, fun b o e => ?_⟩⟩
        · rw [List.length_map, List.length_map]
          exact Nat.lt_of_le_of_lt (List.length_take_le' _ _) (by rw [c']; exact Nat.lt_of_le_of_lt hm (by decide))
        · rw [upd_same, List.take_add_one, hdd, List.map_append, List.map_append]
          rfl
        · rw [upd_ne (ne_of_none e hD)]
          exact s' _ _ (sm b o e)
      · rintro H1 ⟨hv, sm⟩
        refine ⟨D, _, rfl, SqL.of hv, done0 _ ?_ _ sm⟩
        rw [List.take_of_length_le (by rw [hl]; exact Nat.le_refl _), List.all_map]
        show (_ && _) = _
        rw [c, Bool.true_and]
        rfl
    · show (_ && _) = _
      cases z : decide (ds.length = m) with
      | false => rfl
      | true => exact absurd z c
end
end Vf

set_option Elab.async false
set_option linter.all false
set_option maxRecDepth 100000
set_option maxHeartbeats 4000000
namespace Vf
open PySem PySem.Spec PyProof.Rows L2 L2.Vx Vs
/-! ### all rows -/
theorem len_at {X : Cx} {K : PySem.W.Frag} (e : X.K = K) : CallR X (.builtin "len") (fun xs H Q => ∃ p ys, xs = [.ref p] ∧ (SqL K H p ys ∨ SqT K H p ys) ∧ Q (.int ys.length) H) := e ▸ call_len_seq
def spRows : Sp := fun vs H Q _ => ∃ (v : V) (D : PyData) (S : Addr → Prop) (m : Nat), vs = [v, nI m] ∧ m ≤ 100000 ∧ (∀ ds, D = .tuple ds → ds.length ≤ 100000) ∧ Dt H S v D ∧ ∀ H', Same H H' → Q (.bl (isRowsD m D)) H'
section
variable {P : Program} {w : World} {K : PySem.W.Frag} {mg : Str → Option Value} {base : Heap}
theorem scRows : FnScope ["thing", "width", "row"] ["thing", "width"] (defScope sRows) := ⟨rfl, rfl, rfl, by decide +kernel, rfl, by decide +kernel, by decide +kernel⟩
theorem ok_rows {f fR : Addr} {fd fdR : FuncData} (F : Fun K "is_rows" "is_rows" sRows f fd) (GR : FnOk P w K mg base CX0 3 fR fdR ["thing", "width", "many"] spRow) (bR : Binds K fdR ["thing", "width", "many"] []) (kR : PySem.W.keepIn K (.ref fR) = true) (mR : mg "is_row" = some (.ref fR)) (T : TxtR mg) :
    FnOk P w K mg base CX0 4 f fd ["thing", "width"] spRows := by
  refine F.ok scRows (fun vs H Q E h => ?_) (fun cdv A outer s H vs Q E hr h => ?_)
  · obtain ⟨v, D, S, m, rfl, _⟩ := h
    rfl
  obtain ⟨v, D, S, m, rfl, hm, hb, hd, q⟩ := h
  refine ⟨_, pss_one (ps_ret (pe_and (pe_callB call_isi (by rfl) T.isi (by decide +kernel) (pa_cons (pv 0) (pa_cons (pe_bltn (v := .ty "tuple") (u := .type "tuple") (by rfl) T.tuple (by decide +kernel) rfl) pa_nil)))
      (pe_and (pe_cmp (pc_gt (pe_callB call_len_seq (by rfl) T.len PySem.boot_len (pa_cons (pv 0) pa_nil)) pe_int))
      (pe_one (pe_callB (cr_all rfl) (by rfl) T.all (by decide +kernel) (pa_cons (pe_lc (own := [("row", 2)]) (g := gName 2) (tt := tYes) rfl scRows.nd (pi_tup (pv 0))
        (blkOk_by (N := ["thing", "width", "row"]) (sc := defScope sRows) (by decide +kernel)) (fun _ _ _ _ _ => pg_name (i := 2) scRows.nd rfl (Or.inl rfl)) (fun _ _ _ _ _ => pts_nil)
        (fun _ _ _ _ _ => by exact pe_call GR hr rfl mR kR bR .nil pass0 (pa_cons (pv 2) (pa_cons (pv 1) (pa_cons (pe_callB (len_at (K := K) rfl) (by rfl) T.len PySem.boot_len (pa_cons (pv 0) pa_nil)) pa_nil))))) pa_nil)))))), ?_⟩
  refine ⟨_, rfl, _, _, _, _, _, rfl, .ty _, dt_ty hd, kit_D D (.inr (.inr (.inr rfl))), _, rfl, ?_⟩
  have q' := q H (Same.refl H)
  cases hd with
  | flat e =>
    cases v with
    | non => cases (show D = .none from e); exact q'
    | bl b => cases (show D = .bool b from e); exact q'
    | int i => cases (show D = .int i from e); exact q'
    | str x => cases (show D = .str x from e); exact q'
    | byt b => exact (show False from e).elim
    | flt b => exact (show False from e).elim
    | ref b => exact (show False from e).elim
    | ty b => exact (show False from e).elim
  | lst _ _ _ => exact q'
  | dct _ _ _ => exact q'
  | @tup a xs ds ea sa da =>
    have hl := dtA_len da
    have hb' := hb _ rfl
    clear q'
    have done0 : ∀ b, isRowsD m (.tuple ds) = b → ∀ H', Same H H' → Q (.bl b) H' := fun b e H' s' => e ▸ q H' s'
    refine ite2 (fun _ => ?_) (fun z => absurd (show isD "tuple" (PyData.tuple ds) = true from (by decide +kernel : (("tuple" == "int" && "tuple" == "bool") || "tuple" == "tuple") = true)) z)
    refine ⟨_, rfl, a, xs, rfl, .inr (SqT.of ea), _, _, rfl, rfl, _, rfl, ?_⟩
    have ew : decide ((0 : Int) < (xs.length : Int)) = decide (0 < ds.length) := by
      rw [Bool.eq_iff_iff, decide_eq_true_iff, decide_eq_true_iff, hl]
      omega
    refine ite2 (fun c0 => ?_) (fun c0 => done0 _ ?_ H (Same.refl H))
    · have c : decide (0 < ds.length) = true := ew ▸ c0
      refine ⟨_, rfl, a, rfl, ⟨xs, SqT.of ea⟩, fun D hD => ?_⟩
      refine lc_it walk_tup (fun i H' => H' D = some (.lst (((ds.take i).map (isRowD m ds.length)).map V.bl)) ∧ Same H H') ⟨upd_same, same_new hD _⟩ (fun i H' _ ⟨_, s'⟩ => SqT.of (s' _ _ ea)) ?_ ?_
      · rintro i v H1 H2 hi ⟨hv, sm⟩ y
        obtain ⟨e, hx⟩ := y
        subst e
        obtain ⟨d, hdd, dd⟩ := dtA_at da hx
        refine ⟨rfl, _, rfl, _, rfl, _, rfl, a, xs, rfl, .inr (SqT.of (sm _ _ ea)), v, d, S, m, ds.length, by rw [← hl]; rfl, hm, dt_same dd sm, fun H' s' => ⟨_, s' _ _ hv, ?_, ?_, fun b o e => ?_⟩⟩
        · rw [List.length_map, List.length_map]
          exact Nat.lt_of_le_of_lt (List.length_take_le' _ _) (Nat.lt_of_le_of_lt hb' (by decide))
        · rw [upd_same, List.take_add_one, hdd, List.map_append, List.map_append]
          rfl
        · rw [upd_ne (ne_of_none e hD)]
          exact s' _ _ (sm b o e)
      · rintro H1 ⟨hv, sm⟩
        refine ⟨D, _, rfl, SqL.of hv, done0 _ ?_ _ sm⟩
        rw [List.take_of_length_le (by rw [hl]; exact Nat.le_refl _), List.all_map]
        show (_ && _) = _
        rw [c, Bool.true_and]
        rfl
    · have c : ¬ decide (0 < ds.length) = true := ew ▸ c0
      show (_ && _) = _
      cases z : decide (0 < ds.length) with
      | false => rfl
      | true => exact absurd z c
end
end Vf

set_option Elab.async false
set_option linter.all false
set_option maxRecDepth 100000
set_option maxHeartbeats 4000000
namespace Vf
open PySem PySem.Spec PyProof.Rows L2 L2.Vx Vs
/-! ### ascending numbers -/
abbrev sAsc : Stmt := top 3
def ascN (xs : List Nat) : Bool := ((List.range (xs.length - 1)).map fun i => decide (xs.getD i 0 < xs.getD (i + 1) 0)).all id
def spAscT (K : PySem.W.Frag) : Sp := fun vs H Q _ => ∃ (a : Addr) (xs : List Nat), vs = [.ref a] ∧ H a = some (.tup (xs.map nI)) ∧ xs.length ≤ 100000 ∧ ∀ H', Same H H' → Q (.bl (ascN xs)) H'
theorem walk_zipT {K : PySem.W.Frag} {a b : Addr} {xs ys : List V} {n : Nat} (hn : n = min xs.length ys.length) : Walk (RZ.ItzT K a b) n (fun H => SqT K H a xs ∧ SqT K H b ys) (YPair (fun i => xs[i]?) (fun i => ys[i]?)) := by
  refine ⟨fun i _ hi q => ⟨xs, ys, xs[i]'(by omega), ys[i]'(by omega), q.1, q.2, List.getElem?_eq_getElem _, List.getElem?_eq_getElem _⟩, fun _ q => ⟨xs, ys, q.1, q.2, by omega⟩, fun i H v H' _ q z => ?_⟩
  obtain ⟨T, x, y, h1, h2, h3, h4, h5⟩ := z
  exact ⟨T, x, y, h1, h2, h3, h4 xs q.1, h5 ys q.2⟩
theorem cutV1 (xs : List V) : cutV xs (some 1) none = xs.drop 1 := by
  unfold cutV
  rw [show HT.sIx xs.length 0 (some 1) = min 1 xs.length from HT.sIx_nat xs.length 0 1, HT.sIx_none]
  cases xs with
  | nil => rfl
  | cons x r =>
    rw [show min 1 (x :: r).length = 1 by rw [List.length_cons]; omega]
    exact List.take_of_length_le (by rw [List.length_drop]; exact Nat.le_refl _)
theorem nI_item {xs : List Nat} {i : Nat} {y : V} (e : (xs.map nI)[i]? = some y) : i < xs.length ∧ y = nI (xs.getD i 0) := by
  rw [List.getElem?_map] at e
  obtain ⟨n, hn, rfl⟩ := Option.map_eq_some_iff.mp e
  refine ⟨(List.getElem?_eq_some_iff.mp hn).1, ?_⟩
  rw [List.getD_eq_getElem?_getD, hn]
  rfl
structure TxtZ (mg : Str → Option Value) : Prop where
  all : mg "all" = none
  zip : mg "zip" = none
section
variable {P : Program} {w : World} {K : PySem.W.Frag} {mg : Str → Option Value} {base : Heap}
theorem scAsc : FnScope ["things", "one", "other"] ["things"] (defScope sAsc) := ⟨rfl, rfl, rfl, by decide +kernel, rfl, by decide +kernel, by decide +kernel⟩
theorem ok_ascT {f : Addr} {fd : FuncData} (F : Fun K "is_ascending" "is_ascending" sAsc f fd) (T : TxtZ mg) : FnOk P w K mg base CX0 1 f fd ["things"] (spAscT K) := by
  refine F.ok scAsc (fun vs H Q E h => ?_) (fun cdv A outer s H vs Q E hr h => ?_)
  · obtain ⟨a, xs, rfl, _⟩ := h
    rfl
  obtain ⟨a, xs, rfl, hx, hn, q⟩ := h
  refine ⟨_, pss_one (ps_ret (pe_callB (cr_all rfl) (by rfl) T.all (by decide +kernel) (pa_cons (pe_lc (own := [("one", 1), ("other", 2)]) (g := gTup K 2 (gCons (gName 1) (gCons (gName 2) gNil))) (tt := tYes) rfl scAsc.nd
      (RZ.pi_zipA (by rfl) T.zip (pa_cons (pv 0) (pa_cons (pe_slice sl_tupA (pv 0) (po_some pe_int) po_none) pa_nil)))
      (blkOk_by (N := ["things", "one", "other"]) (sc := defScope sAsc) (by decide +kernel)) (fun _ _ _ _ _ => pg_tup rfl (pgs_cons (pg_name (i := 1) scAsc.nd rfl (Or.inl rfl)) (pgs_cons (pg_name (i := 2) scAsc.nd rfl (Or.inl rfl)) pgs_nil))) (fun _ _ _ _ _ => pts_nil)
      (fun _ _ _ _ _ => pe_cmpR op_lt (pv 1) (pv 2) (nomark _))) pa_nil))), ?_⟩
  refine ⟨_, rfl, _, rfl, _, rfl, a, xs.map nI, rfl, SqT.of hx, fun hw => ?_, fun hw p hp => ?_⟩
  · have hz : xs.map nI = (xs.map nI).drop 1 := by
      have z := hw.1
      rw [show HT.sIx (xs.map nI).length 0 (some 1) = min 1 (xs.map nI).length from HT.sIx_nat _ 0 1] at z
      cases xs with
      | nil => rfl
      | cons x r => rw [List.length_map, List.length_cons] at z; omega
    have hy := hx
    rw [hz] at hy
    have sm0 : Same H H := Same.refl H
    rename Hp => H1
    refine ⟨a, a, _, _, rfl, .inr ⟨SqT.of hx, SqT.of hy, fun D hD => ?_⟩⟩
    refine lc_it (walk_zipT (n := xs.length - 1) (by rw [List.length_drop, List.length_map]; omega)) (fun i H' => H' D = some (.lst (((List.range i).map fun i => decide (xs.getD i 0 < xs.getD (i + 1) 0)).map V.bl)) ∧ Same H1 H') ⟨upd_same, same_new hD _⟩ (fun i H' _ ⟨_, s'⟩ => ⟨SqT.of (s' _ _ hx), SqT.of (s' _ _ hy)⟩) ?_ ?_
    · rintro i v H2 H3 hi ⟨hv, sm⟩ ⟨T, x, y, rfl, hT, rfl, hc, hd⟩
      have hd : (List.drop 1 (xs.map nI))[i]? = some y := hd
      rw [List.getElem?_drop] at hd
      obtain ⟨hc1, rfl⟩ := nI_item hc
      obtain ⟨hd1, rfl⟩ := nI_item hd
      refine ⟨T, _, rfl, SqT.of upd_same, rfl, _, _, rfl, _, _, rfl, rfl, rfl, _, rfl, _, rfl, _, _, rfl, rfl, _, (upd_ne (ne_of_none hv hT)).trans hv, ?_, ?_, ?_⟩
      · rw [List.length_map, List.length_map, List.length_range]
        exact Nat.lt_of_lt_of_le (Nat.lt_of_lt_of_le hi (Nat.le_trans (Nat.sub_le _ _) hn)) (by decide)
      · rw [upd_same, List.range_succ, List.map_append, List.map_append]
        have e : decide (((xs.getD i 0 : Nat) : Int) < ((xs.getD (1 + i) 0 : Nat) : Int)) = decide (xs.getD i 0 < xs.getD (i + 1) 0) := by
          rw [Nat.add_comm 1 i, Bool.eq_iff_iff, decide_eq_true_iff, decide_eq_true_iff]
          exact Int.ofNat_lt
        exact congrArg (fun b => some (HO.lst (((List.range i).map fun i => decide (xs.getD i 0 < xs.getD (i + 1) 0)).map V.bl ++ [V.bl b]))) e
      · intro b o e
        rw [upd_ne (ne_of_none e hD)]
        exact (sm.trans (same_new hT _)) b o e
    · rintro H2 ⟨hv, sm⟩
      exact ⟨_, _, rfl, SqL.of hv, q _ (sm0.trans sm)⟩
  · have hy : upd H p (.tup (cutV (xs.map nI) (some 1) none)) p = some (.tup ((xs.map nI).drop 1)) := by rw [upd_same, cutV1]
    have sm0 := same_new hp (.tup (cutV (xs.map nI) (some 1) none))
    have hx' := sm0 _ _ hx
    clear hx hp hw
    generalize upd H p (.tup (cutV (xs.map nI) (some 1) none)) = H1 at hy sm0 hx' ⊢
    have hx := hx'
    refine ⟨a, p, _, _, rfl, .inr ⟨SqT.of hx, SqT.of hy, fun D hD => ?_⟩⟩
    refine lc_it (walk_zipT (n := xs.length - 1) (by rw [List.length_drop, List.length_map]; omega)) (fun i H' => H' D = some (.lst (((List.range i).map fun i => decide (xs.getD i 0 < xs.getD (i + 1) 0)).map V.bl)) ∧ Same H1 H') ⟨upd_same, same_new hD _⟩ (fun i H' _ ⟨_, s'⟩ => ⟨SqT.of (s' _ _ hx), SqT.of (s' _ _ hy)⟩) ?_ ?_
    · rintro i v H2 H3 hi ⟨hv, sm⟩ ⟨T, x, y, rfl, hT, rfl, hc, hd⟩
      have hd : (List.drop 1 (xs.map nI))[i]? = some y := hd
      rw [List.getElem?_drop] at hd
      obtain ⟨hc1, rfl⟩ := nI_item hc
      obtain ⟨hd1, rfl⟩ := nI_item hd
      refine ⟨T, _, rfl, SqT.of upd_same, rfl, _, _, rfl, _, _, rfl, rfl, rfl, _, rfl, _, rfl, _, _, rfl, rfl, _, (upd_ne (ne_of_none hv hT)).trans hv, ?_, ?_, ?_⟩
      · rw [List.length_map, List.length_map, List.length_range]
        exact Nat.lt_of_lt_of_le (Nat.lt_of_lt_of_le hi (Nat.le_trans (Nat.sub_le _ _) hn)) (by decide)
      · rw [upd_same, List.range_succ, List.map_append, List.map_append]
        have e : decide (((xs.getD i 0 : Nat) : Int) < ((xs.getD (1 + i) 0 : Nat) : Int)) = decide (xs.getD i 0 < xs.getD (i + 1) 0) := by
          rw [Nat.add_comm 1 i, Bool.eq_iff_iff, decide_eq_true_iff, decide_eq_true_iff]
          exact Int.ofNat_lt
        exact congrArg (fun b => some (HO.lst (((List.range i).map fun i => decide (xs.getD i 0 < xs.getD (i + 1) 0)).map V.bl ++ [V.bl b]))) e
      · intro b o e
        rw [upd_ne (ne_of_none e hD)]
        exact (sm.trans (same_new hT _)) b o e
    · rintro H2 ⟨hv, sm⟩
      exact ⟨_, _, rfl, SqL.of hv, q _ (sm0.trans sm)⟩
end
end Vf

set_option Elab.async false
set_option linter.all false
set_option maxRecDepth 100000
set_option maxHeartbeats 4000000
namespace Vf
open PySem PySem.Spec PyProof.Rows L2 L2.Vx Vs
/-! ### ends -/
def natD : PyData → Nat
  | .int i => i.toNat
  | _ => 0
def isEndsD (m : Nat) : PyData → Bool
  | .tuple ds => ds.all (isStateD m) && ascN (ds.map natD)
  | _ => false
theorem dt_state {H : Hp} {S : Addr → Prop} {v : V} {d : PyData} {m : Nat} (h : Dt H S v d) (c : isStateD m d = true) : v = nI (natD d) ∧ natD d < m := by
  cases h with
  | flat e =>
    cases v with
    | non => cases (show d = .none from e); exact nomatch c
    | bl b => cases (show d = .bool b from e); exact nomatch c
    | int i =>
      cases (show d = .int i from e)
      have c' : (decide (0 ≤ i) && decide (i < m)) = true := c
      rw [Bool.and_eq_true, decide_eq_true_iff, decide_eq_true_iff] at c'
      refine ⟨?_, ?_⟩
      · show V.int i = V.int ((i.toNat : Nat) : Int)
        rw [Int.toNat_of_nonneg c'.1]
      · show i.toNat < m
        omega
    | str x => cases (show d = .str x from e); exact nomatch c
    | byt b => exact (show False from e).elim
    | flt b => exact (show False from e).elim
    | ref b => exact (show False from e).elim
    | ty b => exact (show False from e).elim
  | lst _ _ _ => exact nomatch c
  | tup _ _ _ => exact nomatch c
  | dct _ _ _ => exact nomatch c
theorem dt_states {H : Hp} {S : Addr → Prop} {m : Nat} : ∀ {vs : List V} {ds : List PyData}, DtAll H S vs ds → ds.all (isStateD m) = true → vs = (ds.map natD).map nI ∧ ∀ x ∈ ds.map natD, x < m
  | _, _, .nil, _ => ⟨rfl, fun _ h => nomatch h⟩
  | _, _, .cons h r, c => by
    rw [List.all_cons, Bool.and_eq_true] at c
    obtain ⟨e1, l1⟩ := dt_state h c.1
    obtain ⟨e2, l2⟩ := dt_states r c.2
    refine ⟨?_, ?_⟩
    · rw [e1, e2]
      rfl
    · intro x hx
      rw [List.map_cons, List.mem_cons] at hx
      rcases hx with rfl | hx
      · exact l1
      · exact l2 x hx
abbrev sEnds : Stmt := top 8
def spEnds : Sp := fun vs H Q _ => ∃ (v : V) (D : PyData) (S : Addr → Prop) (m : Nat), vs = [v, nI m] ∧ (∀ ds, D = .tuple ds → ds.length ≤ 100000) ∧ Dt H S v D ∧ ∀ H', Same H H' → Q (.bl (isEndsD m D)) H'
section
variable {P : Program} {w : World} {K : PySem.W.Frag} {mg : Str → Option Value} {base : Heap}
theorem scEnds : FnScope ["thing", "many", "end"] ["thing", "many"] (defScope sEnds) := ⟨rfl, rfl, rfl, by decide +kernel, rfl, by decide +kernel, by decide +kernel⟩
theorem ok_ends {f fS fA : Addr} {fd fdS fdA : FuncData} (F : Fun K "is_ends" "is_ends" sEnds f fd)
    (GS : FnOk P w K mg base CX0 2 fS fdS ["thing", "many"] (spAsk1 isStateD)) (bS : Binds K fdS ["thing", "many"] []) (kS : PySem.W.keepIn K (.ref fS) = true) (mS : mg "is_state" = some (.ref fS))
    (GA : FnOk P w K mg base CX0 1 fA fdA ["things"] (spAscT K)) (bA : Binds K fdA ["things"] []) (kA : PySem.W.keepIn K (.ref fA) = true) (mA : mg "is_ascending" = some (.ref fA)) (T : TxtR mg) :
    FnOk P w K mg base CX0 3 f fd ["thing", "many"] spEnds := by
  refine F.ok scEnds (fun vs H Q E h => ?_) (fun cdv A outer s H vs Q E hr h => ?_)
  · obtain ⟨v, D, S, m, rfl, _⟩ := h
    rfl
  obtain ⟨v, D, S, n, rfl, hb, hd, q⟩ := h
  refine ⟨_, pss_one (ps_ret (pe_and (pe_callB call_isi (by rfl) T.isi (by decide +kernel) (pa_cons (pv 0) (pa_cons (pe_bltn (v := .ty "tuple") (u := .type "tuple") (by rfl) T.tuple (by decide +kernel) rfl) pa_nil)))
      (pe_and (pe_callB (cr_all rfl) (by rfl) T.all (by decide +kernel) (pa_cons (pe_lc (own := [("end", 2)]) (g := gName 2) (tt := tYes) rfl scEnds.nd (pi_tup (pv 0))
        (blkOk_by (N := ["thing", "many", "end"]) (sc := defScope sEnds) (by decide +kernel)) (fun _ _ _ _ _ => pg_name (i := 2) scEnds.nd rfl (Or.inl rfl)) (fun _ _ _ _ _ => pts_nil)
        (fun _ _ _ _ _ => by exact pe_call GS hr rfl mS kS bS .nil pass0 (pa_cons (pv 2) (pa_cons (pv 1) pa_nil)))) pa_nil))
      (pe_one (pe_call GA (hr.mono (by decide)) rfl mA kA bA .nil pass0 (pa_cons (pv 0) pa_nil)))))), ?_⟩
  refine ⟨_, rfl, _, _, _, _, _, rfl, .ty _, dt_ty hd, kit_D D (.inr (.inr (.inr rfl))), _, rfl, ?_⟩
  have q' := q H (Same.refl H)
  cases hd with
  | flat e =>
    cases v with
    | non => cases (show D = .none from e); exact q'
    | bl b => cases (show D = .bool b from e); exact q'
    | int i => cases (show D = .int i from e); exact q'
    | str x => cases (show D = .str x from e); exact q'
    | byt b => exact (show False from e).elim
    | flt b => exact (show False from e).elim
    | ref b => exact (show False from e).elim
    | ty b => exact (show False from e).elim
  | lst _ _ _ => exact q'
  | dct _ _ _ => exact q'
  | @tup a xs ds ea sa da =>
    have hl := dtA_len da
    have hb' := hb _ rfl
    clear q'
    have done0 : ∀ b, isEndsD n (.tuple ds) = b → ∀ H', Same H H' → Q (.bl b) H' := fun b e H' s' => e ▸ q H' s'
    refine ite2 (fun _ => ?_) (fun z => absurd (show isD "tuple" (PyData.tuple ds) = true from (by decide +kernel : (("tuple" == "int" && "tuple" == "bool") || "tuple" == "tuple") = true)) z)
    refine ⟨_, rfl, a, rfl, ⟨xs, SqT.of ea⟩, fun D hD => ?_⟩
    refine lc_it walk_tup (fun i H' => H' D = some (.lst (((ds.take i).map (isStateD n)).map V.bl)) ∧ Same H H') ⟨upd_same, same_new hD _⟩ (fun i H' _ ⟨_, s'⟩ => SqT.of (s' _ _ ea)) ?_ ?_
    · rintro i v H1 H2 hi ⟨hv, sm⟩ y
      obtain ⟨e, hx⟩ := y
      subst e
      obtain ⟨d, hdd, dd⟩ := dtA_at da hx
      refine ⟨rfl, _, rfl, _, rfl, v, d, S, n, rfl, dt_same dd sm, fun H' s' => ⟨_, s' _ _ hv, ?_, ?_, fun b o e => ?_⟩⟩
      · rw [List.length_map, List.length_map]
        exact Nat.lt_of_le_of_lt (List.length_take_le' _ _) (Nat.lt_of_le_of_lt hb' (by decide))
      · rw [upd_same, List.take_add_one, hdd, List.map_append, List.map_append]
        rfl
      · rw [upd_ne (ne_of_none e hD)]
        exact s' _ _ (sm b o e)
    · rintro H1 ⟨hv, sm⟩
      have ea' : (((ds.take xs.length).map (isStateD n)).all id) = ds.all (isStateD n) := by
        rw [List.take_of_length_le (by rw [hl]; exact Nat.le_refl _), List.all_map]
        rfl
      refine ⟨D, _, rfl, SqL.of hv, _, rfl, ?_⟩
      rw [ea']
      refine ite2 (fun c => ?_) (fun c => done0 _ ?_ _ sm)
      · obtain ⟨e1, _⟩ := dt_states da c
        refine ⟨_, rfl, a, ds.map natD, rfl, by rw [← e1]; exact sm _ _ ea, by rw [List.length_map]; exact hb', fun H' s' => done0 _ ?_ _ (sm.trans s')⟩
        show (_ && _) = _
        rw [c, Bool.true_and]
      · show (_ && _) = _
        cases z : ds.all (isStateD n) with
        | false => rfl
        | true => exact absurd z c
end
end Vf

set_option Elab.async false
set_option linter.all false
set_option maxRecDepth 100000
set_option maxHeartbeats 4000000
namespace Vs
open PySem PySem.Spec PyProof.Rows L2
/-! ### zip of two texts -/
def Itzs (x y : Str) : It :=
  ⟨fun i _ => i < x.cps.size ∧ i < y.cps.size, fun i H v H' => ∃ T c d, v = .ref T ∧ H T = none ∧ H' = upd H T (.tup [.str ⟨#[c]⟩, .str ⟨#[d]⟩]) ∧ x.cps[i]? = some c ∧ y.cps[i]? = some d,
    fun i _ => (i ≤ x.cps.size ∧ i ≤ y.cps.size) ∧ (i = x.cps.size ∨ i = y.cps.size)⟩
section
variable {P : Program} {w : World} {K : PySem.W.Frag}
def StZ (x y : Str) (t u : Tok) (z TI TO i1 i2 : Addr) (i : Nat) (h : Heap) : Prop :=
  IsZip h z TI TO .none ∧ IsTupOf2 h TI (.ref i1) (.ref i2) ∧ (∃ a b, IsTupOf2 h TO a b) ∧ h.IsStrIter i1 (strIterType x) x t i ∧ h.IsStrIter i2 (strIterType y) y u i
theorem in5 {c z TI TO i1 i2 : Addr} (h : c ∈ [z, TI, TO, i1, i2]) : c = z ∨ c = TI ∨ c = TO ∨ c = i1 ∨ c = i2 := by simpa using h
theorem StZ.there {x y : Str} {t u : Tok} {z TI TO i1 i2 : Addr} {i : Nat} {h : Heap} (S : StZ x y t u z TI TO i1 i2 i h) (c : Addr) (hc : c ∈ [z, TI, TO, i1, i2]) : ∃ o, h.get? c = some o ∧ ∀ v, o.data ≠ .cell v := by
  obtain ⟨s1, s2, ⟨a, b, s3⟩, ⟨o1, e1, _, d1⟩, ⟨o2, e2, _, d2⟩⟩ := S
  rcases in5 hc with rfl | rfl | rfl | rfl | rfl
  · exact ⟨_, s1, fun _ q => nomatch q⟩
  · exact ⟨_, s2, fun _ q => nomatch q⟩
  · exact ⟨_, s3, fun _ q => nomatch q⟩
  · exact ⟨o1, e1, fun _ q => by rw [d1] at q; cases q⟩
  · exact ⟨o2, e2, fun _ q => by rw [d2] at q; cases q⟩
theorem turn_texts {elts : List Expr} {kk : Nat} {tpos : Pos} {x y : Str} {t u : Tok} {z TI TO i1 i2 : Addr} (D : ZipSep2 z TI TO i1 i2 [i1] [i2]) (tO : TI ≠ TO) :
    Turn P w K (.Tuple elts kk tpos) (Itzs x y) [z, TI, TO, i1, i2] z (StZ x y t u z TI TO i1 i2) where
  mem := by simp
  obj := fun i h st => st.there
  keep := fun i h h' st k => by
    obtain ⟨s1, s2, ⟨a, b, s3⟩, ⟨o1, e1, r1⟩, ⟨o2, e2, r2⟩⟩ := st
    exact ⟨k _ (by simp) _ s1, k _ (by simp) _ s2, ⟨a, b, k _ (by simp) _ s3⟩, ⟨o1, k _ (by simp) _ e1, r1⟩, ⟨o2, k _ (by simp) _ e2, r2⟩⟩
  item := by
    intro X hP hw hK hc i pins s σ H E I hf st hg
    subst hP hw hK
    obtain ⟨s1, s2, ⟨a, b, s3⟩, s4, s5⟩ := id st
    have hh := I.ok.hd hc
    have hT : s.TypeIs (.ref z) "zip" := ⟨_, s1, rfl⟩
    have old : ∀ c ∈ [z, TI, TO, i1, i2], c < s.heap.objs.size := fun c hc => let ⟨o, e, _⟩ := st.there c hc; Heap.lt_size e
    unfold pyNext
    refine wpAny_bind (wpAny_attempt (wpAny_callSpecial?_slot (name := Str.ofString "__next__") hT F.slot_zip_next (wpAny_call_entry F.slot_zip_next hT F.entry_zip_next
      (zipD2_next_item D (Draws.text (by exact hh) i1 x t) (Draws.text (by exact hh) i2 y u) s1 s2 s3 s4 s5 hg.1 hg.2 fun x1 x2 h' tk p1 p2 z' to' s4' s5' tn hsz keep => wpAny_pure ?_) (F.args_zip_next_1 _))))
    obtain ⟨c, tc, hc1, rfl⟩ := p1
    obtain ⟨d, td, hd1, rfl⟩ := p2
    refine ⟨_, rfl, wpAny_letOwnedTupleGo_zip (s := { s with heap := h', toks := tk }) z' fun h2 z2 sb => ?_⟩
    have at2 : ∀ b o, b ≠ z → h'.get? b = some o → h2.get? b = some o := fun b o n e => (sb.2 b n).trans e
    have zn : s.heap.objs.size ≠ z := Nat.ne_of_gt (Heap.lt_size s1)
    have new : ObjOk X.prog X.w (upd H s.heap.objs.size (.tup [.str ⟨#[c]⟩, .str ⟨#[d]⟩])) h2 s.heap.objs.size (.tup [.str ⟨#[c]⟩, .str ⟨#[d]⟩]) :=
      ⟨by show 2 ≤ sizeLine; decide, _, .cons ⟨tc, rfl⟩ (.cons ⟨td, rfl⟩ .nil), ⟨_, at2 _ _ zn tn, rfl, _, rfl⟩⟩
    have all : ∀ c o, c ∉ [z, TI, TO, i1, i2] → s.heap.get? c = some o → h2.get? c = some o := fun c o hb q =>
      at2 c o (fun e => hb (by simp [e])) (keep c o (fun e => hb (by simp [e])) (fun e => hb (by simp [e])) (fun e => hb (by simp [e])) (fun e => hb (by simp [e])) q)
    have I1 := I.turnedNew (t' := tk) (ch := [z, TI, TO, i1, i2]) all hf (Nat.le_refl _) new
    refine ⟨.ref s.heap.objs.size, _, I1, rfl, ⟨_, c, d, rfl, I.hok.fresh (Nat.le_refl _), rfl, hc1, hd1⟩, ⟨z2, ?_, ⟨_, _, at2 _ _ D.TOz to'⟩, ?_, ?_⟩, fun b hb => ?_⟩
    · exact at2 _ _ D.TIz (keep _ _ D.TIz tO D.TIi1 D.TIi2 s2)
    · obtain ⟨o, e, r⟩ := s4'
      exact ⟨o, at2 _ _ D.zi1.symm e, r⟩
    · obtain ⟨o, e, r⟩ := s5'
      exact ⟨o, at2 _ _ D.zi2.symm e, r⟩
    · rw [upd_ne (Nat.ne_of_lt (old b hb))]
      exact (hf b hb).1
  done := by
    intro X hP hw hK hc i pins s σ H E I hf st hg
    subst hP hw hK
    obtain ⟨s1, s2, ⟨a, b, s3⟩, s4, s5⟩ := id st
    have hh := I.ok.hd hc
    have hT : s.TypeIs (.ref z) "zip" := ⟨_, s1, rfl⟩
    unfold pyNext
    refine wpAny_bind (wpAny_attempt (wpAny_callSpecial?_slot (name := Str.ofString "__next__") hT F.slot_zip_next (wpAny_call_entry F.slot_zip_next hT F.entry_zip_next
      (zipD2_next_end D (Draws.text (by exact hh) i1 x t) (Draws.text (by exact hh) i2 y u) s1 s2 s3 s4 s5 hg.1.1 hg.1.2 hg.2 fun h' tk e keep he => ?_) (F.args_zip_next_1 _))))
    obtain ⟨o, ho, hcl⟩ := he
    refine wpAny_bind (wpAny_isInstance (T := "StopIteration") (b := true) ⟨o, ho, hcl⟩ isSubtype_stop (wpAny_pure ⟨rfl, ?_⟩))
    exact I.turnedL (t' := tk) (ch := [z, TI, TO, i1, i2]) (fun c o hb q => keep c o (fun e => hb (by simp [e])) (fun e => hb (by simp [e])) (fun e => hb (by simp [e])) (fun e => hb (by simp [e])) q) hf
  self := fun A i s Q E st h => wpAny_pyIter_zip st.1 h
end
def iZipS (ta : TA) : TI := fun σ H R => ta σ H fun vs H1 => ∃ x y, vs = [.str x, .str y] ∧ R (Itzs x y) H1
theorem pi_zipS {X : Cx} {e e2 : Expr} {ta : TA} {p pos tpos : Pos} {elts : List Expr} {kk : Nat} (hg : Gl X "zip") (hm : X.mg "zip" = none) (ha : PA X [e, e2] ta)
    (hs : starEach [e, e2] X.env = (false, eval e X.env) :: starEach [e2] X.env := by rfl) (hpl : (backTo pos (starEach [e2] X.env)).any (·.1) = false := by rfl) :
    PI X (.Tuple elts kk tpos) (.Call (.Name "zip" p) [e, e2] [] pos) (iZipS ta) := by
  refine ⟨fun pins s σ H R I h => ?_⟩
  refine Call_ (ld_blt I hg hm PyProof.Rows.boot_zip (PyProof.Rows.callWith_type1 (thn (ha.run pos pins s σ H _ I h) fun us s1 q1 => ?_) hs hpl))
  obtain ⟨vs, H1, I1, r1, x, y, rfl, q⟩ := q1
  obtain ⟨u1, u2, rfl, ⟨t, rfl⟩, ⟨u, rfl⟩⟩ := vals2 r1
  refine zip_begins2 (begins_text x t) (begins_text y u) trivial trivial fun h' hz hTI hTO h1 h2 hsz hk => wpAny_pyIter_zip hz ?_
  have I2 : Inv X pins σ H1 { s1 with heap := h' } := I1.kept (t' := s1.toks) hk
  have sep : ZipSep2 (s1.heap.objs.size + 4) (s1.heap.objs.size + 2) (s1.heap.objs.size + 3) s1.heap.objs.size (s1.heap.objs.size + 1) [s1.heap.objs.size] [s1.heap.objs.size + 1] := by
    constructor <;> simp <;> omega
  refine ⟨s1.heap.objs.size + 4, _, _, _, H1, rfl, I2, turn_texts (t := t) (u := u) sep (Nat.ne_of_lt (Nat.lt_succ_self _)), ⟨hz, hTI, ⟨_, _, hTO⟩, ⟨_, h1, rfl, rfl⟩, ⟨_, h2, rfl, rfl⟩⟩, fun c hcm => ?_, q⟩
  have hle : s1.heap.objs.size ≤ c := by
    rcases in5 hcm with z | z | z | z | z <;> rw [z] <;> first | exact Nat.le_refl _ | exact Nat.le_add_right _ _
  exact I1.fpOk hle (I1.hok.fresh hle)
theorem walk_texts {x y : Str} {n : Nat} (hn : n = min x.cps.size y.cps.size) : Walk (Itzs x y) n (fun _ => True) (fun i H v H' => ∃ T c d, v = .ref T ∧ H T = none ∧ H' = upd H T (.tup [.str ⟨#[c]⟩, .str ⟨#[d]⟩]) ∧ x.cps[i]? = some c ∧ y.cps[i]? = some d) := by
  subst hn
  exact ⟨fun i _ hi _ => ⟨by omega, by omega⟩, fun _ _ => ⟨⟨by omega, by omega⟩, by omega⟩, fun _ _ _ _ _ _ y => y⟩
end Vs

set_option Elab.async false
set_option linter.all false
set_option maxRecDepth 100000
set_option maxHeartbeats 4000000
namespace Vf
open PySem PySem.Spec PyProof.Rows L2 L2.Vx Vs
abbrev sLet : Stmt := top 38
abbrev sText : Stmt := top 39
/-! ### the mathematics -/
def stepB (l : List Nat) (i : Nat) : Bool := decide ((l.getD i 0) < l.getD (i + 1) 0)
/-- each sign is less than the next one -/
def rising (l : List Nat) : Bool := (List.range (l.length - 1)).all (stepB l)
def azB (c : Nat) : Bool := decide (97 ≤ c) && decide (c ≤ 122)
def azs (l : List Nat) : Bool := l.all azB
def letB (x : Str) : Bool := decide (1 ≤ x.length) && decide (x.length ≤ 4) && (azs (cp x) && rising (cp x))
def wordB (a x : Str) : Bool := (cp x).all fun c => decide (c ∈ cp a)
theorem lt1 (c d : Nat) : decide (([c] : List Nat) < [d]) = decide (c < d) := by
  by_cases h : c < d
  · rw [decide_eq_true h, decide_eq_true (List.cons_lt_cons_iff.mpr (.inl h))]
  · rw [decide_eq_false h, decide_eq_false fun z => (List.cons_lt_cons_iff.mp z).elim h fun z => absurd z.2 (List.lt_irrefl _)]
/-- a value that is a text y, or no string at all -/
def StrOr (K : PySem.W.Frag) (H : Hp) (v : V) (y : Option Str) : Prop := match y with
  | some x => v = .str x ∧ x.length ≤ 100000 ∧ ∀ c ∈ cp x, c < 128
  | none => ∃ t, TyX K H v t ∧ PySem.W.kitOne K t (.type "str") = some false
theorem cut1 (x : Str) : cp (cutS x (some 1) none) = (cp x).drop 1 := by
  unfold cutS cp
  have e1 : HT.sIx x.length 0 (some 1) = min 1 x.length := HT.sIx_nat _ _ 1
  have e2 : HT.sIx x.length x.length none = x.length := rfl
  have e3 : x.cps.toList.length = x.length := by rw [Array.length_toList]; rfl
  rw [e1, e2]
  show ((x.cps.toList.drop (min 1 x.length)).take (x.length - min 1 x.length)).toArray.toList = _
  rw [List.toList_toArray, List.take_of_length_le (by rw [List.length_drop, e3]; exact Nat.le_refl _)]
  by_cases h : 1 ≤ x.length
  · rw [Nat.min_eq_left h]
  · have z : x.length = 0 := by omega
    rw [z] at e3 ⊢
    rw [List.length_eq_zero_iff.mp e3]
    rfl
theorem sing_at {l : List Nat} {i c : Nat} (h : l[i]? = some c) : l.getD i 0 = c := by rw [List.getD_eq_getElem?_getD, h]; rfl
/-! ### promises -/
def spAsc : Sp := fun vs H Q _ => ∃ x : Str, vs = [.str x] ∧ x.length ≤ 100000 ∧ ∀ H', Same H H' → Q (.bl (rising (cp x))) H'
def spLet (K : PySem.W.Frag) (f : Str → Bool) : Sp := fun vs H Q _ => ∃ v y, vs = [v] ∧ StrOr K H v y ∧ ∀ H', Same H H' → Q (.bl (y.elim false f)) H'
def spText (K : PySem.W.Frag) (f : Str → Str → Bool) : Sp := fun vs H Q _ => ∃ a v y, vs = [.str a, v] ∧ StrOr K H v y ∧ a.length ≤ 4 ∧ ∀ H', Same H H' → Q (.bl (y.elim false (f a))) H'
structure TxtA (mg : Str → Option Value) (fA : Addr) : Prop where
  all : mg "all" = none
  zip : mg "zip" = none
  isi : mg "isinstance" = none
  str : mg "str" = none
  len : mg "len" = none
  asc : mg "is_ascending" = some (.ref fA)
section
variable {P : Program} {w : World} {K : PySem.W.Frag} {mg : Str → Option Value} {base : Heap}
theorem ok_asc {f fA : Addr} {fd : FuncData} (F : Fun K "is_ascending" "is_ascending" sAsc f fd) (T : TxtA mg fA) : FnOk P w K mg base CX0 1 f fd ["things"] spAsc := by
  refine F.ok scAsc (fun vs H Q E h => ?_) (fun cdv A outer s H vs Q E hr h => ?_)
  · obtain ⟨x, rfl, _⟩ := h
    rfl
  obtain ⟨x, rfl, hx, q⟩ := h
  refine ⟨_, pss_one (ps_ret (pe_callB (cr_all rfl) (by rfl) T.all (by decide +kernel) (pa_cons (pe_lc (own := [("one", 1), ("other", 2)]) (g := gTup K 2 (gCons (gName 1) (gCons (gName 2) gNil))) (tt := tYes) rfl scAsc.nd
      (pi_zipS (by rfl) T.zip (pa_cons (pv 0) (pa_cons (pe_slice sl_str (pv 0) (po_some pe_int) po_none) pa_nil)))
      (blkOk_by (N := ["things", "one", "other"]) (sc := defScope sAsc) (by decide +kernel)) (fun _ _ _ _ _ => pg_tup rfl (pgs_cons (pg_name (i := 1) scAsc.nd rfl (Or.inl rfl)) (pgs_cons (pg_name (i := 2) scAsc.nd rfl (Or.inl rfl)) pgs_nil))) (fun _ _ _ _ _ => pts_nil)
      (fun _ _ _ _ _ => pe_cmpR op_lt_str (pv 1) (pv 2) (nomark _))) pa_nil))), ?_⟩
  have hlen : (cp x).length = x.length := by rw [Array.length_toList]; rfl
  refine ⟨_, rfl, _, rfl, _, rfl, _, rfl, Nat.le_trans hx (by decide), _, _, rfl, fun D hD => ?_⟩
  have hy : ∀ i, (cutS x (some 1) none).cps[i]? = x.cps[1 + i]? := fun i => by
    rw [← Array.getElem?_toList, ← Array.getElem?_toList]
    show (cp (cutS x (some 1) none))[i]? = _
    rw [cut1, List.getElem?_drop]
  have hysz : (cutS x (some 1) none).cps.size = x.length - 1 := by
    have z := congrArg List.length (cut1 x)
    rw [List.length_drop, hlen] at z
    exact z
  refine lc_it (walk_texts (n := x.length - 1) (by rw [hysz]; show x.length - 1 = min x.length (x.length - 1); omega)) (fun i H' => H' D = some (.lst (((List.range i).map (stepB (cp x))).map V.bl)) ∧ Same H H') ⟨upd_same, same_new hD _⟩ (fun _ _ _ _ => trivial) ?_ ?_
  · rintro i v H1 H2 hi ⟨hv, sm⟩ ⟨T, c, d, rfl, hT, rfl, hc, hd⟩
    rw [hy] at hd
    refine ⟨T, _, rfl, SqT.of upd_same, rfl, _, _, rfl, _, _, rfl, rfl, rfl, _, rfl, _, rfl, _, _, rfl, rfl, _, (upd_ne (ne_of_none hv hT)).trans hv, ?_, ?_, ?_⟩
    · rw [List.length_map, List.length_map, List.length_range]
      exact Nat.lt_of_lt_of_le (Nat.lt_of_lt_of_le hi (Nat.le_trans (Nat.sub_le _ _) hx)) (by decide)
    · rw [upd_same, List.range_succ, List.map_append, List.map_append]
      have e : stepB (cp x) i = decide (([c] : List Nat) < [d]) := by
        unfold stepB
        rw [lt1, sing_at (by rw [Array.getElem?_toList]; exact hc), sing_at (l := cp x) (i := i + 1) (c := d) (by rw [Array.getElem?_toList, Nat.add_comm]; exact hd)]
      simp only [List.map_cons, List.map_nil, e]
    · intro b o e
      rw [upd_ne (ne_of_none e hD)]
      exact (sm.trans (same_new hT _)) b o e
  · rintro H1 ⟨hv, sm⟩
    refine ⟨_, _, rfl, SqL.of hv, ?_⟩
    have e : ((List.range (x.length - 1)).map (stepB (cp x))).all id = rising (cp x) := by
      unfold rising
      rw [hlen, List.all_map]
      rfl
    rw [e]
    exact q _ sm
theorem scLet : FnScope ["thing", "sign"] ["thing"] (defScope sLet) := ⟨rfl, rfl, rfl, by decide +kernel, rfl, by decide +kernel, by decide +kernel⟩
/-- what a test of "a text?" asks -/
theorem strOr_ty {H : Hp} {v : V} {y : Option Str} (h : StrOr K H v y) : ∃ t, TyX K H v t ∧ PySem.W.kitOne K t (.type "str") = some y.isSome := by
  cases y with
  | none => exact h
  | some x =>
    obtain ⟨rfl, _⟩ := h
    exact ⟨_, .base (.str _), kit_ty (show kitB "str" "str" = some true by decide +kernel)⟩
theorem az_le (c : Nat) : ((!decide (([c] : List Nat) < [97])) && !decide (([122] : List Nat) < [c])) = (decide (97 ≤ c) && decide (c ≤ 122)) := by
  rw [lt1, lt1]
  by_cases h1 : c < 97 <;> by_cases h2 : 122 < c <;> simp [h1, h2] <;> omega
theorem ok_let {f fA : Addr} {fd fdA : FuncData} (F : Fun K "is_letters" "is_letters" sLet f fd) (GA : FnOk P w K mg base CX0 1 fA fdA ["things"] spAsc) (bA : Binds K fdA ["things"] []) (kA : PySem.W.keepIn K (.ref fA) = true) (T : TxtA mg fA) :
    FnOk P w K mg base CX0 2 f fd ["thing"] (spLet K letB) := by
  refine F.ok scLet (fun vs H Q E h => ?_) (fun cdv A outer s H vs Q E hr h => ?_)
  · obtain ⟨v, y, rfl, _⟩ := h
    rfl
  obtain ⟨v, y, rfl, hv, q⟩ := h
  refine ⟨_, pss_cons (ps_if (PW.pt (pw_or (pt_not (pt_val (pe_callB call_isi (by rfl) T.isi (by decide +kernel) (pa_cons (pv 0) (pa_cons (pe_bltn (v := .ty "str") (u := .type "str") (by rfl) T.str (by decide +kernel) rfl) pa_nil)))))
        (pw_or1 (pt_not (pt_chain op_le op_le pe_int (pe_callB call_len_str (by rfl) T.len PySem.boot_len (pa_cons (pv 0) pa_nil)) pe_int)))))
      (pss_one (ps_ret pe_bl)) pss_nil)
    (pss_one (ps_ret (pe_and (pe_callB (cr_all rfl) (by rfl) T.all (by decide +kernel) (pa_cons (pe_lc (own := [("sign", 1)]) (g := gName 1) (tt := tYes) rfl scLet.nd (pi_str (pv 0))
        (blkOk_by (N := ["thing", "sign"]) (sc := defScope sLet) (by decide +kernel)) (fun _ _ _ _ _ => pg_name (i := 1) scLet.nd rfl (Or.inl rfl)) (fun _ _ _ _ _ => pts_nil)
        (fun _ _ _ _ _ => pe_chain op_le_str op_le_str pe_str (pv 1) pe_str)) pa_nil)) (pe_one (pe_call GA hr rfl T.asc kA bA .nil pass0 (pa_cons (pv 0) pa_nil)))))), ?_⟩
  obtain ⟨t, t1, t2⟩ := strOr_ty hv
  refine ⟨_, rfl, _, _, t, _, _, rfl, .ty _, t1, t2, _, rfl, ?_⟩
  cases y with
  | none => exact q H (Same.refl H)
  | some x =>
    obtain ⟨rfl, hx, _⟩ := hv
    have hlen : (cp x).length = x.length := by rw [Array.length_toList]; rfl
    have hq : ∀ b, letB x = b → ∀ H', Same H H' → Q (.bl b) H' := fun b e H' s => e ▸ q H' s
    have none : ¬ (1 ≤ x.length ∧ x.length ≤ 4) → letB x = false := fun h => by
      unfold letB
      by_cases h1 : 1 ≤ x.length
      · rw [decide_eq_false (p := x.length ≤ 4) fun h2 => h ⟨h1, h2⟩, Bool.and_false, Bool.false_and]
      · rw [decide_eq_false h1, Bool.false_and, Bool.false_and]
    refine ⟨_, rfl, _, rfl, Nat.le_trans hx (by decide), _, _, rfl, rfl, _, rfl, ?_⟩
    refine ite2 (fun h1 => ?_) (fun h1 => ⟨_, rfl, hq _ (none fun z => by simp at h1; omega) H (Same.refl H)⟩)
    have h1' : 1 ≤ x.length := by have := of_decide_eq_true h1; omega
    refine ⟨_, _, rfl, rfl, _, rfl, ?_⟩
    refine ite2 (fun h2 => hq _ (none fun z => by simp at h2; omega) H (Same.refl H)) (fun h2 => ?_)
    have h2' : x.length ≤ 4 := by simp at h2; omega
    refine ⟨_, rfl, _, rfl, fun D hD => ?_⟩
    refine lc_it walk_str (fun i H' => H' D = some (.lst ((((cp x).take i).map azB).map V.bl)) ∧ Same H H') ⟨upd_same, same_new hD _⟩ (fun _ _ _ _ => trivial) ?_ ?_
    · rintro i v H1 H2 hi ⟨hv, sm⟩ ⟨rfl, c, hc, rfl⟩
      have hc' : (cp x)[i]? = some c := by rw [Array.getElem?_toList]; exact hc
      have fin : ∀ b, b = azB c → ∃ acc, H2 D = some (.lst acc) ∧ acc.length < sizeLine ∧ (upd H2 D (.lst (acc ++ [V.bl b])) D = some (.lst ((((cp x).take (i + 1)).map azB).map V.bl)) ∧ Same H (upd H2 D (.lst (acc ++ [V.bl b])))) := fun b e => by
        refine ⟨_, hv, ?_, ?_, fun b' o' e' => ?_⟩
        · rw [List.length_map, List.length_map]
          exact Nat.lt_of_le_of_lt (List.length_take_le' _ _) (by rw [hlen]; exact Nat.lt_of_le_of_lt h2' (by decide))
        · rw [upd_same, List.take_add_one, hc', List.map_append, List.map_append, e]
          rfl
        · rw [upd_ne (ne_of_none e' hD)]
          exact sm b' o' e'
      have az := az_le c
      refine ⟨rfl, _, rfl, _, _, rfl, rfl, _, rfl, ?_⟩
      refine ite2 (fun z1 => ⟨_, _, rfl, rfl, fin _ ?_⟩) (fun z1 => fin _ ?_)
      · have z1' : (!decide (([c] : List Nat) < [97])) = true := z1
        rw [z1', Bool.true_and] at az
        exact az
      · have z1' : (!decide (([c] : List Nat) < [97])) = false := by cases z : (!decide (([c] : List Nat) < [97])) with
          | false => rfl
          | true => exact absurd z z1
        rw [z1', Bool.false_and] at az
        exact az
    · rintro H1 ⟨hv, sm⟩
      refine ⟨D, _, rfl, SqL.of hv, _, rfl, ?_⟩
      have et : ((cp x).take x.cps.size) = cp x := List.take_of_length_le (by rw [hlen]; exact Nat.le_refl _)
      have ea : (((cp x).take x.cps.size).map azB).all id = azs (cp x) := by rw [et, List.all_map]; rfl
      have eL : letB x = (azs (cp x) && rising (cp x)) := by
        unfold letB
        rw [decide_eq_true h1', decide_eq_true h2', Bool.true_and, Bool.true_and]
      rw [ea]
      refine ite2 (fun z => ⟨_, rfl, x, rfl, hx, fun H' s' => hq _ ?_ H' (sm.trans s')⟩) (fun z => hq _ ?_ H1 sm)
      · rw [eL, z, Bool.true_and]
      · rw [eL]
        cases e : azs (cp x) with
        | false => rfl
        | true => exact absurd e z
end
end Vf

set_option Elab.async false
set_option linter.all false
set_option maxRecDepth 100000
set_option maxHeartbeats 4000000
namespace Vs
open PySem PySem.Spec PySem.Builtin PySem.Builtin.Str PyProof.Rows L2
/-! ### what is left of a text when all signs of another one are taken off its ends -/
theorem sub_size (x : Str) (lo hi : Nat) (h : hi ≤ x.length) : (strSub x lo hi).length = hi - lo := by
  show (x.cps.extract lo hi).size = hi - lo
  have : x.length = x.cps.size := rfl
  rw [Array.size_extract]
  omega
theorem strip_none (x a : Str) : (Txt.stripChars x a).length = 0 ↔ ∀ c ∈ x.cps.toList, c ∈ a.cps.toList := by
  have hn : x.cps.toList.length = x.length := by simp [Str.length]
  obtain ⟨h0, h1, h2⟩ := lo_facts a.cps.contains x
  obtain ⟨g0, g1, g2, _⟩ := hi_facts a.cps.contains x _ h0
  have e : (Txt.stripChars x a).length = stripHi a.cps.contains true x (stripLo a.cps.contains true x) - stripLo a.cps.contains true x := by
    unfold Txt.stripChars
    rw [stripBy_eq, sub_size _ _ _ g1]
  rw [e]
  have key : ∀ k, k < x.length → (x.cps.getD k 0 ∈ x.cps.toList) := fun k hk => by
    rw [← getD_list]
    have hk' : k < x.cps.toList.length := hn.symm ▸ hk
    rw [List.getD_eq_getElem?_getD, List.getElem?_eq_getElem hk']
    exact List.getElem_mem hk'
  constructor
  · intro z c hc
    obtain ⟨k, hk, rfl⟩ := List.mem_iff_getElem.mp hc
    have hg : a.cps.contains (x.cps.getD k 0) = true := by
      by_cases hlt : k < stripLo a.cps.contains true x
      · exact h1 k hlt
      · exact g2 k (by omega) (hn ▸ hk)
    rw [← getD_list, List.getD_eq_getElem?_getD, List.getElem?_eq_getElem hk] at hg
    simpa using hg
  · intro z
    have all : ∀ k, k < x.length → a.cps.contains (x.cps.getD k 0) = true := fun k hk => by
      have := z _ (key k hk)
      simpa using this
    rcases h2 with h | h
    · omega
    · by_cases hl : stripLo a.cps.contains true x < x.length
      · rw [all _ hl] at h
        cases h
      · omega
theorem strip_dec (x a : Str) : decide (V.str (Txt.stripChars x a) = V.str "") = x.cps.toList.all fun c => decide (c ∈ a.cps.toList) := by
  have h := strip_none x a
  by_cases z : ∀ c ∈ x.cps.toList, c ∈ a.cps.toList
  · have e : (Txt.stripChars x a) = "" := by
      have := h.mpr z
      revert this
      generalize Txt.stripChars x a = y
      intro this
      obtain ⟨l⟩ := y
      have : l = #[] := Array.eq_empty_of_size_eq_zero this
      subst this
      rfl
    rw [e, decide_eq_true rfl, eq_comm, List.all_eq_true]
    exact fun c hc => decide_eq_true (z c hc)
  · have e : ¬ V.str (Txt.stripChars x a) = V.str "" := fun q => z (h.mp (by
      have : Txt.stripChars x a = "" := V.str.inj q
      rw [this]
      rfl))
    rw [decide_eq_false e, eq_comm, List.all_eq_false]
    obtain ⟨c, hc⟩ := Classical.not_forall.mp z
    obtain ⟨hc1, hc2⟩ := Classical.not_imp.mp hc
    exact ⟨c, hc1, by simpa using hc2⟩
end Vs

set_option Elab.async false
set_option linter.all false
set_option maxRecDepth 100000
set_option maxHeartbeats 4000000
namespace Vf
open PySem PySem.Spec PyProof.Rows L2 L2.Vx Vs
section
variable {P : Program} {w : World} {K : PySem.W.Frag} {mg : Str → Option Value} {base : Heap}
theorem scText : FnScope ["letters", "thing"] ["letters", "thing"] (defScope sText) := ⟨rfl, rfl, rfl, by decide +kernel, rfl, by decide +kernel, by decide +kernel⟩
theorem ok_text {f fA : Addr} {fd : FuncData} (F : Fun K "is_text" "is_text" sText f fd) (T : TxtA mg fA) :
    FnOk P w K mg base CX0 1 f fd ["letters", "thing"] (spText K wordB) := by
  refine F.ok scText (fun vs H Q E h => ?_) (fun cdv A outer s H vs Q E hr h => ?_)
  · obtain ⟨a, v, y, rfl, _⟩ := h
    rfl
  obtain ⟨a, v, y, rfl, hv, ha, q⟩ := h
  refine ⟨_, pss_one (ps_ret (pe_and (pe_callB call_isi (by rfl) T.isi (by decide +kernel) (pa_cons (pv 1) (pa_cons (pe_bltn (v := .ty "str") (u := .type "str") (by rfl) T.str (by decide +kernel) rfl) pa_nil)))
      (pe_one (pe_cmpR op_eq (pe_bm PySem.F.plainAttrs_str PySem.F.slot_str_strip PySem.F.type_str_strip mt_stripChars (pv 1) (pa_cons (pv 0) pa_nil)) pe_str (nomark _))))), ?_⟩
  obtain ⟨t, t1, t2⟩ := strOr_ty hv
  refine ⟨_, rfl, _, _, t, _, _, rfl, .ty _, t1, t2, _, rfl, ?_⟩
  cases y with
  | none => exact q H (Same.refl H)
  | some x =>
    obtain ⟨rfl, hx, h128⟩ := hv
    refine ⟨_, rfl, rfl, _, rfl, _, _, rfl, rfl, Nat.le_trans hx (by decide), rfl, ?_⟩
    have e : decide (V.str (Txt.stripChars x a) = V.str "") = wordB a x := by
      rw [strip_dec]
      rfl
    show Q (.bl (decide (V.str (Txt.stripChars x a) = V.str ""))) H
    rw [e]
    exact q _ (Same.refl H)
end
end Vf

set_option linter.all false
namespace Vm
/-! ### words as lists of codes; the pieces of a word -/
abbrev Wd := List Nat
theorem lt_irr (x : Wd) : ¬ x < x := List.lt_irrefl x
theorem lt_tr {x y z : Wd} (a : x < y) (b : y < z) : x < z := List.lt_trans a b
theorem lt_as {x y : Wd} (a : x < y) : ¬ y < x := fun b => lt_irr x (lt_tr a b)
theorem lt_tri {x y : Wd} (a : ¬ x < y) (b : ¬ y < x) : x = y := List.le_antisymm (List.not_lt.mp b) (List.not_lt.mp a)
theorem le_tr {x y z : Wd} (a : ¬ y < x) (b : ¬ z < y) : ¬ z < x := List.not_lt.mpr (List.le_trans (List.not_lt.mp a) (List.not_lt.mp b))
/-- p into an ascending list -/
def ins (p : Wd) : List Wd → List Wd
  | [] => [p]
  | q :: r => if p < q then p :: q :: r else if q < p then q :: ins p r else q :: r
def asc : List Wd → List Wd
  | [] => []
  | p :: r => ins p (asc r)
abbrev Up (l : List Wd) : Prop := l.Pairwise (· < ·)
theorem mem_ins {p x : Wd} : ∀ {l : List Wd}, x ∈ ins p l ↔ x = p ∨ x ∈ l
  | [] => by simp [ins]
  | q :: r => by
    unfold ins
    by_cases h1 : p < q
    · simp [h1]
    · by_cases h2 : q < p
      · simp only [h1, h2, if_false, if_true, List.mem_cons, mem_ins (l := r)]
        constructor
        · rintro (a | a | a) <;> simp [a]
        · rintro (a | a | a) <;> simp [a]
      · have e := lt_tri h1 h2
        subst e
        simp [h1]
theorem up_ins {p : Wd} : ∀ {l : List Wd}, Up l → Up (ins p l)
  | [], _ => List.pairwise_singleton _ _
  | q :: r, h => by
    obtain ⟨a, b⟩ := List.pairwise_cons.mp h
    unfold ins
    by_cases h1 : p < q
    · rw [if_pos h1]
      exact List.pairwise_cons.mpr ⟨fun y hy => (List.mem_cons.mp hy).elim (fun e => e ▸ h1) fun hy => lt_tr h1 (a y hy), h⟩
    · rw [if_neg h1]
      by_cases h2 : q < p
      · rw [if_pos h2]
        exact List.pairwise_cons.mpr ⟨fun y hy => (mem_ins.mp hy).elim (fun e => e ▸ h2) fun hy => a y hy, up_ins b⟩
      · rw [if_neg h2]; exact h
theorem mem_asc {x : Wd} : ∀ {l : List Wd}, x ∈ asc l ↔ x ∈ l
  | [] => Iff.rfl
  | p :: r => by unfold asc; rw [mem_ins, mem_asc (l := r), List.mem_cons]
theorem up_asc : ∀ l : List Wd, Up (asc l)
  | [] => List.Pairwise.nil
  | p :: r => up_ins (up_asc r)
theorem up_uniq : ∀ {l m : List Wd}, Up l → Up m → (∀ x, x ∈ l ↔ x ∈ m) → l = m
  | [], [], _, _, _ => rfl
  | [], y :: m, _, _, h => absurd ((h y).mpr (List.mem_cons_self ..)) (by simp)
  | x :: l, [], _, _, h => absurd ((h x).mp (List.mem_cons_self ..)) (by simp)
  | x :: l, y :: m, hl, hm, h => by
    obtain ⟨a1, a2⟩ := List.pairwise_cons.mp hl
    obtain ⟨b1, b2⟩ := List.pairwise_cons.mp hm
    have e : x = y := by
      rcases List.mem_cons.mp ((h x).mp (List.mem_cons_self ..)) with e | hx
      · exact e
      · rcases List.mem_cons.mp ((h y).mpr (List.mem_cons_self ..)) with e | hy
        · exact e.symm
        · exact absurd (a1 y hy) (lt_as (b1 x hx))
    subst e
    refine congrArg (x :: ·) (up_uniq a2 b2 fun z => ?_)
    have hz := h z
    simp only [List.mem_cons] at hz
    constructor
    · intro q
      rcases hz.mp (.inr q) with e | w
      · exact absurd (a1 z q) (e ▸ lt_irr _)
      · exact w
    · intro q
      rcases hz.mpr (.inr q) with e | w
      · exact absurd (b1 z q) (e ▸ lt_irr _)
      · exact w
theorem up_nodup {l : List Wd} (h : Up l) : l.Nodup := List.Pairwise.imp (fun {a b} (q : a < b) (e : a = b) => lt_irr b (by rw [e] at q; exact q)) h
/-- a sorted list without doubles ascends -/
theorem up_of_le : ∀ {l : List Wd}, l.Pairwise (fun x y => ¬ y < x) → l.Nodup → Up l
  | [], _, _ => List.Pairwise.nil
  | x :: l, h, d => by
    obtain ⟨a1, a2⟩ := List.pairwise_cons.mp h
    obtain ⟨b1, b2⟩ := List.nodup_cons.mp d
    refine List.pairwise_cons.mpr ⟨fun y hy => ?_, up_of_le a2 b2⟩
    by_cases c : x < y
    · exact c
    · exact absurd (lt_tri c (a1 y hy) ▸ hy) b1
theorem asc_length_le : ∀ l : List Wd, (asc l).length ≤ l.length
  | [] => Nat.le_refl _
  | p :: r => by
    have h : ∀ m : List Wd, (ins p m).length ≤ m.length + 1 := by
      intro m
      induction m with
      | nil => exact Nat.le_refl _
      | cons q m ih =>
        unfold ins
        by_cases h1 : p < q
        · simp [h1]
        · by_cases h2 : q < p
          · simp [h1, h2]; exact ih
          · simp [h1, h2]
    exact Nat.le_trans (h _) (Nat.succ_le_succ (asc_length_le r))
theorem asc_congr {l m : List Wd} (h : ∀ x, x ∈ l ↔ x ∈ m) : asc l = asc m := up_uniq (up_asc _) (up_asc _) fun x => by rw [mem_asc, mem_asc, h x]
/-- the pieces of k signs, from the left -/
def win (k : Nat) (z : Wd) (i : Nat) : Wd := (z.drop i).take k
def wins (k : Nat) (z : Wd) : List Wd := (List.range (z.length + 1 - k)).map (win k z)
theorem wins_length (k : Nat) (z : Wd) : (wins k z).length = z.length + 1 - k := by simp [wins]
theorem wins_get {k : Nat} {z : Wd} {i : Nat} (h : i < z.length + 1 - k) : (wins k z)[i]? = some (win k z i) := by simp [wins, h]
theorem win_length {k : Nat} {z : Wd} {i : Nat} (h : i < z.length + 1 - k) : (win k z i).length = k := by
  simp [win]; omega
theorem wins_len {k : Nat} {z p : Wd} (h : p ∈ wins k z) : p.length = k := by
  obtain ⟨i, hi, rfl⟩ := List.mem_map.mp h
  exact win_length (List.mem_range.mp hi)
theorem wins_mem {k : Nat} {z p : Wd} (h : p ∈ wins k z) : ∀ c ∈ p, c ∈ z := by
  obtain ⟨i, hi, rfl⟩ := List.mem_map.mp h
  intro c hc
  exact List.mem_of_mem_drop (List.mem_of_mem_take hc)
/-- how often a piece stands in a word -/
def often (k : Nat) (z p : Wd) : Nat := (wins k z).count p
theorem often_pos {k : Nat} {z p : Wd} : 0 < often k z p ↔ p ∈ wins k z := List.count_pos_iff
theorem often_le (k : Nat) (z p : Wd) : often k z p ≤ z.length + 1 - k := by
  rw [← wins_length]; exact List.count_le_length
/-- the wins so far -/
theorem take_succ_wins {k : Nat} {z : Wd} {i : Nat} (h : i < z.length + 1 - k) : (wins k z).take (i + 1) = (wins k z).take i ++ [win k z i] := by
  rw [List.take_add_one, wins_get h]; rfl
/-! ### counting from place to place -/
def upto (k : Nat) (z p : Wd) (j : Nat) : Nat := ((wins k z).take j).count p
theorem upto_all {k : Nat} {z p : Wd} {j : Nat} (h : z.length + 1 - k ≤ j) : upto k z p j = often k z p := by
  unfold upto often
  rw [List.take_of_length_le (by rw [wins_length]; exact h)]
theorem upto_none {k : Nat} {z p : Wd} {a b : Nat} (h : a ≤ b) (hn : ∀ i, a ≤ i → i < b → i < z.length + 1 - k → win k z i ≠ p) : upto k z p b = upto k z p a := by
  induction b with
  | zero => cases Nat.le_zero.mp h; rfl
  | succ b ih =>
    by_cases e : a = b + 1
    · rw [e]
    · have r := ih (by omega) fun i h1 h2 h3 => hn i h1 (by omega) h3
      rw [← r]
      unfold upto
      by_cases hb : b < z.length + 1 - k
      · rw [take_succ_wins hb, List.count_append, List.count_singleton, if_neg]
        · rfl
        · simpa using hn b (by omega) (by omega) hb
      · rw [List.take_of_length_le (by rw [wins_length]; omega), List.take_of_length_le (by rw [wins_length]; omega)]
theorem upto_hit {k : Nat} {z p : Wd} {b : Nat} (hb : b < z.length + 1 - k) (h : win k z b = p) : upto k z p (b + 1) = upto k z p b + 1 := by
  unfold upto
  rw [take_succ_wins hb, List.count_append, List.count_singleton, if_pos (by simpa using h)]
theorem upto_zero {k : Nat} {z p : Wd} {i : Nat} (h : p ∉ (wins k z).take i) : upto k z p i = 0 := List.count_eq_zero.mpr h
theorem upto_miss {k : Nat} {z p : Wd} {b : Nat} (hb : b < z.length + 1 - k) (h : p ≠ win k z b) : upto k z p (b + 1) = upto k z p b := by
  unfold upto
  rw [take_succ_wins hb, List.count_append, List.count_singleton, if_neg (by simpa using fun e => h e.symm)]
  rfl
theorem mem_take_succ {k : Nat} {z p : Wd} {i : Nat} (hi : i < z.length + 1 - k) : p ∈ (wins k z).take (i + 1) ↔ p ∈ (wins k z).take i ∨ p = win k z i := by
  rw [take_succ_wins hi, List.mem_append, List.mem_singleton]
end Vm

set_option Elab.async false
set_option linter.all false
set_option maxRecDepth 100000
set_option maxHeartbeats 4000000
/-! ### texts, any number of them, sorted -/
namespace SrtO
open PySem PyProof.Rows Srt
section
variable {prog : Program} {w : World} {A : Around} {E : Value → Shared → Prop} {s : Shared}
def ltSv (v u : Value) : Bool := decide ((strOf v).cps.toList < (strOf u).cps.toList)
theorem swo_text : Swo ltSv := by
  refine ⟨fun x y h => ?_, fun x y z h1 h2 => ?_⟩
  · have a := of_decide_eq_true (p := (strOf x).cps.toList < (strOf y).cps.toList) h
    exact decide_eq_false (p := (strOf y).cps.toList < (strOf x).cps.toList) (Vm.lt_as a)
  · have a := of_decide_eq_false (p := (strOf y).cps.toList < (strOf x).cps.toList) h1
    have b := of_decide_eq_false (p := (strOf z).cps.toList < (strOf y).cps.toList) h2
    exact decide_eq_false (p := (strOf z).cps.toList < (strOf x).cps.toList) (Vm.le_tr a b)
theorem strs_mem : ∀ {vs : List Value} {ns : List PySem.Str}, StrsAre vs ns → ∀ v ∈ vs, ∃ i t, v = Value.str i t
  | _, _, .nil, v, h => absurd h (by simp)
  | _, _, .cons n t r, v, h => by
    rcases List.mem_cons.mp h with e | h
    · exact ⟨n, t, e⟩
    · exact strs_mem r v h
theorem strs_sv : ∀ {vs : List Value} {ns : List PySem.Str}, StrsAre vs ns → vs.map strOf = ns
  | _, _, .nil => rfl
  | _, _, .cons n t r => congrArg (n :: ·) (strs_sv r)
theorem text_cmp {vs : List Value} {ns : List PySem.Str} (hI : StrsAre vs ns) : Cmp prog w A s oneType' (fun p => p.1 ∈ vs) (lt2 ltSv) := by
  intro p q hm hm'
  obtain ⟨a, t, e⟩ := strs_mem hI _ hm
  obtain ⟨b, u, e'⟩ := strs_mem hI _ hm'
  show wpAny (model prog w) A (keyLt' oneType' p.1 q.1) (fun r s' => s' = s ∧ r = ltSv p.1 q.1) (fun _ _ => False) s
  rw [e, e', keyLt'_oneType]
  exact oneLt_str ⟨rfl, rfl⟩
theorem texts_sortable {a : Addr} {vs : List Value} {ns : List PySem.Str} (hI : StrsAre vs ns) (h2 : 2 ≤ vs.length) : SortableO prog w A s a vs ltSv := by
  intro h' _
  refine ⟨oneType', fun Q E hq => ?_, text_cmp hI⟩
  match vs, hI, h2 with
  | v1 :: v2 :: rest, hI, _ =>
    rw [keyKind_strs hI]
    exact wpAny_pure hq
  | [], _, h => exact absurd h (by decide)
  | [v], _, h => exact absurd h (by simp)
/-- a sorted list of texts -/
abbrev UpS (l : List PySem.Str) : Prop := l.Pairwise fun x y => ¬ y.cps.toList < x.cps.toList
theorem texts_out {vs out : List Value} {ns : List PySem.Str} (hI : StrsAre vs ns) (hs : Srtd ltSv out) (hb : Stb ltSv out vs) : StrsAre out (out.map strOf) ∧ (out.map strOf).Perm ns ∧ UpS (out.map strOf) := by
  refine ⟨Vs.strs_of out fun v hv => strs_mem hI v (hb.perm.mem_iff.mp hv), ?_, ?_⟩
  · have q := hb.perm.map strOf
    rw [strs_sv hI] at q
    exact q
  · exact List.pairwise_map.mpr (hs.imp fun {x y} h => of_decide_eq_false (p := (strOf y).cps.toList < (strOf x).cps.toList) h)
end
end SrtO
namespace Vs
open PySem PySem.Spec PyProof.Rows L2 SrtO
open PySem.Froz (SD sObj addTx tailTx sing TxOk)
section
variable {P : Program} {w : World} {A : Around} {E : Value → Shared → Prop} {s : Shared}
/-- the collected texts, as a new list that is sorted -/
theorem sort_collected {α : Type} {vs : List Value} {ks : List PySem.Str} {s1 : Shared} {t : Value → Sem α} {Q : α → Shared → Prop} (hS : StrsAre vs ks) (hz : vs.length ≤ sizeLine)
    (h : ∀ (h' : Heap) p (out : List Value) (c : Nat) (ys : List PySem.Str), (∀ b o, s1.heap.get? b = some o → h'.get? b = some o) → s1.heap.objs.size ≤ p →
      h'.get? p = some (seqObj "list" out.toArray c) → StrsAre out ys → ys.Perm ks → UpS ys → wpAny (model P w) A (t (.ref p)) Q E { s1 with heap := h' }) :
    wpAny (model P w) A (do
      let r ← newList vs
      let _ ← holding [r] (call (.builtin "list.sort") [r] [])
      t r) Q E s1 := by
  refine wpAny_bind (wpAny_newList ?_ hz)
  have hL : (s1.heap.push (seqObj "list" vs.toArray 0)).get? s1.heap.objs.size = some (seqObj "list" vs.toArray 0) := Heap.get?_push_size _ rfl
  refine wpAny_bind (wpAny_holding (wpAny_call_entry slot_list_sort ⟨_, hL, rfl⟩ entry_list_sort
    (list_sort_ord swo_text hL hz (fun h2 => texts_sortable hS h2) fun out h1 h2 => ⟨_, rfl, ?_⟩) (args_list_sort _)))
  obtain ⟨y1, y2, y3⟩ := texts_out hS h1 h2
  obtain ⟨c, hc⟩ := sortedHeap_at (vs := vs) (out := out.toArray) hL
  refine h _ s1.heap.objs.size out c _ (fun b u q => ?_) (Nat.le_refl _) hc y1 y2 y3
  have hb := Heap.lt_size q
  rw [sortedHeap_old (Nat.ne_of_lt hb) (by rw [size_push']; exact Nat.lt_succ_of_lt hb)]
  exact Heap.get?_push_of_some _ q
end
end Vs

set_option Elab.async false
set_option linter.all false
set_option maxRecDepth 100000
set_option maxHeartbeats 4000000
namespace Vs
open PySem PySem.Spec PyProof.Rows L2 SrtO
open PySem.Froz (SD sObj addTx tailTx sing TxOk)
/-! ### set(d), d a dict whose keys are texts -/
theorem above_go (n : Nat) (hn : n ≤ 8192) : ∀ fuel size, size ≤ 16384 → SetTable.sizeAbove.go n fuel size ≤ 16384
  | 0, size, h => by unfold SetTable.sizeAbove.go; exact h
  | fuel + 1, size, h => by
    unfold SetTable.sizeAbove.go
    split
    · exact above_go n hn fuel (size * 2) (by omega)
    · exact h
theorem above_le {n : Nat} (hn : n ≤ 8192) : SetTable.sizeAbove n ≤ 16384 := above_go n hn 64 8 (by decide)
theorem live_none (m : Nat) : (List.range (m + 1)).filterMap (fun j => ((Array.replicate (m + 1) (none : Option Nat)).getD j none).map (j, ·)) = [] := by
  refine List.filterMap_eq_nil_iff.mpr fun j _ => ?_
  have e : (Array.replicate (m + 1) (none : Option Nat)).getD j none = none := by
    rw [Array.getD_eq_getD_getElem?, Array.getElem?_replicate]
    split <;> rfl
  rw [e]
  rfl
theorem relaid_none (t : SetTable) (n : Nat) : ∃ t', t.relaid #[] n = some (t', #[]) ∧ t'.place = #[] ∧ t'.dummies = #[] ∧ t'.led = t.led := by
  refine ⟨{ mask := SetTable.sizeAbove n - 1, place := #[], dummies := #[], finger := t.finger, led := t.led, moves := t.movedTo (SetTable.sizeAbove n - 1), plain := t.plain }, ?_, rfl, rfl, rfl⟩
  have e : SetTable.layClean (SetTable.sizeAbove n - 1) #[] = some (Array.replicate (SetTable.sizeAbove n - 1 + 1) none) := rfl
  have l := live_none (SetTable.sizeAbove n - 1)
  unfold SetTable.relaid SetTable.laid
  rw [e]
  show some (({ mask := SetTable.sizeAbove n - 1, place := (((List.range (SetTable.sizeAbove n - 1 + 1)).filterMap (fun j => ((Array.replicate (SetTable.sizeAbove n - 1 + 1) (none : Option Nat)).getD j none).map (j, ·))).map Prod.fst).toArray, dummies := #[], finger := t.finger, led := t.led, moves := t.movedTo (SetTable.sizeAbove n - 1), plain := t.plain } : SetTable), (((List.range (SetTable.sizeAbove n - 1 + 1)).filterMap (fun j => ((Array.replicate (SetTable.sizeAbove n - 1 + 1) (none : Option Nat)).getD j none).map (j, ·))).map Prod.snd).toArray) = _
  rw [l]
  rfl
section
variable {P : Program} {w : World} {A : Around} {E : Value → Shared → Prop} {s : Shared}
theorem room_fresh {S : Addr} {n : Nat} {Q : Unit → Shared → Prop} (hS : s.heap.get? S = some (sObj "set" (emptyD w))) (hn : n ≤ 4000)
    (h : ∀ h' D, Heap.SameBut S s.heap h' → h'.get? S = some (sObj "set" D) → Tx P w D [] → Q () { s with heap := h' }) : wpAny (model P w) A (setRoomFor S n) Q E s := by
  have hd : (sObj "set" (emptyD w)).data = .set #[] 0 (.fresh 0 0 (!w.params.followText "set-order")) := rfl
  have keep : Q () s := h s.heap (emptyD w) (Heap.SameBut.refl _ _) hS tx_empty
  unfold setRoomFor
  refine wpAny_bind (wpAny_setState_of hS hd (by rfl) ?_)
  dsimp only
  unfold SetTable.roomFor
  by_cases c : ((SetTable.fresh 0 0 (!w.params.followText "set-order")).fill + n) * 5 ≥ (SetTable.fresh 0 0 (!w.params.followText "set-order")).mask * 3
  · rw [if_pos c]
    dsimp only
    generalize hw : ((SetTable.fresh 0 0 (!w.params.followText "set-order")).place.size + n) * 2 = wanted
    have hw2 : wanted ≤ 8192 := by
      have z : (SetTable.fresh 0 0 (!w.params.followText "set-order")).place.size = 0 := rfl
      rw [z] at hw
      omega
    obtain ⟨t', e, e1, e2, e3⟩ := relaid_none (SetTable.fresh 0 0 (!w.params.followText "set-order")) wanted
    rw [setRelay_eq]
    refine wpAny_bind (wpAny_setState_of hS hd (by rfl) ?_)
    dsimp only
    refine wp_if_neg (by have z := above_le hw2; rw [sizeLine_eq]; omega) ?_
    try refine wpAny_bind (wpAny_pure ?_)
    rw [show (#[] : Array (Int × Value)).map (·.1) = (#[] : Array Int) from by simp, e]
    dsimp only
    refine wpAny_bind ?_
    refine wp_if_neg (by simp) ?_
    try refine wpAny_bind (wpAny_pure ?_)
    refine wpAny_pure ?_
    dsimp only
    refine wpAny_storeSet_of hS hd ?_ (by simp)
    have sb : Heap.SameBut S s.heap (s.heap.update S (Obj.putSet ((#[] : Array Nat).filterMap ((#[] : Array (Int × Value))[·]?)) t')) := Heap.SameBut.update ..
    refine h _ (#[], 1, t') sb (store_at hS hd) ⟨TxOk.nil ?_, ?_, ?_, List.nodup_nil⟩
    · simp [SetTable.fits, SetTable.fill, e1, e2]
    · rw [e1]; exact List.Pairwise.nil
    · rw [e3]
      show _ ∨ (!w.params.followText "set-order") = true
      cases w.params.followText "set-order" <;> simp
  · rw [if_neg c]
    exact wpAny_pure keep
theorem sub_dict_set : isSubtype (.type "dict") (.type "set") = pure false := by rw [isSubtype_type]; kernel_rfl
theorem sub_dict_frozenset : isSubtype (.type "dict") (.type "frozenset") = pure false := by rw [isSubtype_type]; kernel_rfl
/-- the keys are put in, one by one -/
theorem call_set_dict {d : Addr} {vs : List (Key × Value)} {ks : List Str} {Q : Value → Shared → Prop} (hd : s.heap.DictOf (mixKind P w) d vs) (hds : (d == sysModules) = false) (hk : vs.map (·.1) = ks.map Sum.inr) (hl : ks.length ≤ 4000)
    (h : ∀ (s' : Shared) D l, (∀ b o, s.heap.get? b = some o → s'.heap.get? b = some o) → s'.gens = s.gens → s'.os = s.os → s'.heap.get? s.heap.objs.size = some (sObj "set" D) → Tx P w D l → (∀ k, k ∈ l ↔ k ∈ ks) → l.length = ks.length → Q (.ref s.heap.objs.size) s') :
    wpAny (model P w) A (call (.type "set") [.ref d]) Q E s := by
  refine set_by_init fun R hR => ?_
  obtain ⟨o, es, ep, ho, hc, hdat, hkeys, hpairs, hnd⟩ := id hd
  have hne : d ≠ s.heap.objs.size := Nat.ne_of_lt (Heap.lt_size ho)
  have hS : (s.heap.push (sObj "set" (emptyD w))).get? s.heap.objs.size = some (sObj "set" (emptyD w)) := Heap.get?_push_size _ rfl
  have ho1 : (s.heap.push (sObj "set" (emptyD w))).get? d = some o := Heap.get?_push_of_some _ ho
  have hold : ∀ b o, s.heap.get? b = some o → b ≠ s.heap.objs.size ∧ (s.heap.push (sObj "set" (emptyD w))).get? b = some o := fun b o e => ⟨Nat.ne_of_lt (Heap.lt_size e), Heap.get?_push_of_some _ e⟩
  have hty : Shared.TypeIs { s with heap := s.heap.push (sObj "set" (emptyD w)) } (.ref d) "dict" := ⟨o, ho1, hc.1⟩
  generalize s.heap.push (sObj "set" (emptyD w)) = h1 at hS ho1 hold hty ⊢
  have t1 := sub_dict_set
  have t2 := sub_dict_frozenset
  unfold Builtin.«set.__init__» noKeywords Builtin.Frozenset.updateFrom
  wp_walk
  rw [hdat]
  refine wpAny_pure ?_
  refine wpAny_bind (wpAny_dictEntries ho1 hdat ?_)
  have hlen : es.size = ks.length := by
    have e1 := hpairs.length
    have e2 := congrArg List.length hk
    rw [List.length_map, List.length_map] at e2
    rw [Array.length_toList] at e1
    omega
  have hksn : ks.Nodup := by
    have z := hnd
    rw [hk] at z
    exact (List.pairwise_map.mp z).imp fun {a b} q e => q (by rw [e])
  refine wpAny_bind (room_fresh hS (by rw [hlen]; exact hl) fun h2 D sb hS2 F => ?_)
  have ho2 : h2.get? d = some o := (sb.2 d hne).trans ho1
  refine wpAny_bind (wpAny_dictEntries ho2 hdat ?_)
  refine wpAny_bind ?_
  refine SeqAt.wpAny_forIn_span 0 es.size _ (fun i _ s' => ∃ h' D l, s' = { s with heap := h' } ∧ h'.get? s.heap.objs.size = some (sObj "set" D) ∧ Tx P w D l ∧ l.length = i ∧ (∀ k, k ∈ l ↔ k ∈ ks.take i) ∧ (∀ b o', b ≠ s.heap.objs.size → h1.get? b = some o' → h'.get? b = some o'))
    _ ?_ ?_ _ ⟨h2, D, [], rfl, hS2, F, rfl, (fun k => by simp), fun b o' n e => (sb.2 b n).trans e⟩
  · rintro i _ s' _ hi ⟨h', D1, l, rfl, g1, g2, g3, g4, g5⟩
    have ho3 := g5 d o hne ho1
    refine wpAny_bind (wpAny_dictEntries ho3 hdat ?_)
    rw [Array.getElem?_eq_getElem hi]
    have hik : i < ks.length := by omega
    obtain ⟨kv, hkv⟩ : ∃ kv, vs[i]? = some kv := by
      have e2 := congrArg List.length hk
      rw [List.length_map, List.length_map] at e2
      exact ⟨vs[i]'(by omega), List.getElem?_eq_getElem _⟩
    obtain ⟨kk, vv⟩ := kv
    obtain ⟨hkey, hval⟩ := hpairs.get? (e := es[i]) (by simp [hi]) hkv
    obtain ⟨k', hkey', hhash⟩ := hkeys es[i] (Array.getElem_mem hi)
    obtain rfl : k' = kk := (mixKind P w).inj _ _ _ hkey' hkey
    have ekk : k' = Sum.inr ks[i] := by
      have z := congrArg (fun l => l[i]?) hk
      simp only [List.getElem?_map, hkv, Option.map_some, List.getElem?_eq_getElem hik] at z
      exact Option.some.inj z
    subst ekk
    obtain ⟨tk, ev⟩ := Value.isStrOf_shape (x := ks[i]) (v := es[i].key) hkey
    show wpAny _ _ (holding [es[i].key] (setAddHashed s.heap.objs.size es[i].key es[i].hash) >>= _) _ _ _
    rw [hhash, ev]
    have hni : ks[i] ∉ l := fun z => by
      obtain ⟨j, hj, e⟩ := List.getElem_of_mem ((g4 _).mp z)
      rw [List.length_take] at hj
      rw [List.getElem_take] at e
      exact List.pairwise_iff_getElem.mp hksn j i (by omega) hik (by omega) e
    refine wpAny_bind (wpAny_holding (Froz.add_x (s := { s with heap := h' }) g1 g2.ok hni (by rw [g3]; exact Nat.lt_of_le_of_lt (show i + 1 ≤ 4000 by omega) (by decide)) ?_))
    have hS3 : (h'.update s.heap.objs.size (fun _ => sObj "set" (addTx (hashStr w ks[i]) (.str ks[i] tk) D1))).get? s.heap.objs.size = some (sObj "set" (addTx (hashStr w ks[i]) (.str ks[i] tk) D1)) := Froz.get_upd _ g1 rfl
    have other : ∀ b o', b ≠ s.heap.objs.size → h'.get? b = some o' → (h'.update s.heap.objs.size (fun _ => sObj "set" (addTx (hashStr w ks[i]) (.str ks[i] tk) D1))).get? b = some o' := fun b o' n e => (Heap.get?_update_other _ _ (Ne.symm n)).trans e
    refine wpAny_bind (wpAny_dictEpoch (other d o hne ho3) hdat ?_)
    rw [if_neg (by simp)]
    refine wpAny_pure ⟨_, _, ks[i] :: l, rfl, hS3, g2.add tk hni, (by rw [List.length_cons, g3]), fun k => ?_, fun b o' n e => other b o' n (g5 b o' n e)⟩
    rw [List.take_add_one, List.getElem?_eq_getElem hik, List.mem_append, List.mem_cons, g4 k]
    simp [Or.comm]
  · rintro _ s' ⟨h', D1, l, rfl, g1, g2, g3, g4, g5⟩
    have em : max 0 es.size = ks.length := by rw [hlen]; exact Nat.max_eq_right (Nat.zero_le _)
    rw [em] at g3 g4
    rw [List.take_length] at g4
    exact wpAny_pure (wpAny_pure (hR _ (h { s with heap := h' } D1 l (fun b o' e => g5 b o' (hold b o' e).1 (hold b o' e).2) rfl rfl g1 g2 g4 g3)))
end
end Vs

set_option Elab.async false
set_option linter.all false
set_option maxRecDepth 100000
set_option maxHeartbeats 4000000
namespace Vm
open PySem PySem.Spec PyProof.Rows L2 L2.Vx
/-! ### words as texts; dicts whose keys are words -/
def mkS (l : Wd) : Str := ⟨l.toArray⟩
theorem mkS_cps (l : Wd) : (mkS l).cps.toList = l := by simp [mkS]
theorem mkS_of (z : Str) : mkS z.cps.toList = z := by obtain ⟨⟨l⟩⟩ := z; rfl
theorem mkS_inj {a b : Wd} (h : mkS a = mkS b) : a = b := by rw [← mkS_cps a, h, mkS_cps]
theorem mkS_length (l : Wd) : (mkS l).length = l.length := by
  show l.toArray.size = _
  simp
abbrev kS (p : Wd) : Key := Sum.inr (mkS p)
theorem kS_iff {a b : Wd} : kS a = kS b ↔ a = b := ⟨fun h => mkS_inj (Sum.inr.inj h), fun h => by rw [h]⟩
def entK (f : Wd → V) (ks : List Wd) : List (Key × V) := ks.map fun k => (kS k, f k)
theorem entK_length (f : Wd → V) (ks : List Wd) : (entK f ks).length = ks.length := List.length_map _
theorem entK_keys (f : Wd → V) (ks : List Wd) : (entK f ks).map (·.1) = (ks.map mkS).map Sum.inr := by
  unfold entK
  rw [List.map_map, List.map_map]
  rfl
theorem entK_congr {f g : Wd → V} {ks : List Wd} (h : ∀ p ∈ ks, f p = g p) : entK f ks = entK g ks := List.map_congr_left fun p hp => by rw [h p hp]
theorem valV_ent (f : Wd → V) (p : Wd) : ∀ ks : List Wd, valV (entK f ks) (kS p) = if p ∈ ks then some (f p) else none
  | [] => by simp [entK, valV_nil]
  | q :: r => by
    show valV ((kS q, f q) :: entK f r) (kS p) = _
    by_cases e : q = p
    · subst e
      rw [valV_pos (p := (kS q, f q)) rfl, if_pos (List.mem_cons_self ..)]
    · rw [valV_neg (p := (kS q, f q)) (fun z => e (kS_iff.mp z)), valV_ent f p r]
      have e' : ¬ p = q := fun z => e z.symm
      simp only [List.mem_cons, e', false_or]
theorem get_ent {H : Hp} {d : Addr} {f : Wd → V} {ks : List Wd} {p : Wd} (e : H d = some (.dK (entK f ks))) (h : p ∈ ks) : DGet H d (.str (mkS p)) (some (f p)) := by
  have z := DGet.k (k := kS p) e
  rw [valV_ent, if_pos h] at z
  exact z
theorem getD_ent {f : Wd → V} {ks : List Wd} {p : Wd} {v : V} (h : p ∉ ks → f p = v) : (valV (entK f ks) (kS p)).getD v = f p := by
  rw [valV_ent]
  split
  · rfl
  · rename_i c
    exact (h c).symm
/-- f, but v at p -/
def at' (f : Wd → V) (p : Wd) (v : V) : Wd → V := fun q => if q = p then v else f q
/-- p behind the others, if it is new -/
def more (ks : List Wd) (p : Wd) : List Wd := if p ∈ ks then ks else ks ++ [p]
theorem putK_ent (f : Wd → V) (p : Wd) (v : V) (ks : List Wd) : putK (entK f ks) (kS p) v = entK (at' f p v) (more ks p) := by
  have e := valV_ent f p ks
  unfold more
  by_cases h : p ∈ ks
  · rw [if_pos h]
    rw [if_pos h] at e
    unfold putK
    rw [valV_any, e, if_pos (show (some (f p)).isSome = true from rfl)]
    unfold entK
    rw [List.map_map]
    refine List.map_congr_left fun q _ => ?_
    show (if kS q = kS p then (kS q, v) else (kS q, f q)) = (kS q, if q = p then v else f q)
    by_cases c : q = p
    · rw [if_pos (kS_iff.mpr c), if_pos c]
    · rw [if_neg (fun z => c (kS_iff.mp z)), if_neg c]
  · rw [if_neg h]
    rw [if_neg h] at e
    rw [putK_new _ e]
    unfold entK
    rw [List.map_append]
    refine congr (congrArg _ (List.map_congr_left fun q hq => ?_)) ?_
    · have c : ¬ q = p := fun z => h (z ▸ hq)
      show (kS q, f q) = (kS q, if q = p then v else f q)
      rw [if_neg c]
    · show [(kS p, v)] = [(kS p, if p = p then v else f p)]
      rw [if_pos rfl]
theorem more_nodup {ks : List Wd} (h : ks.Nodup) (p : Wd) : (more ks p).Nodup := by
  unfold more
  split
  · exact h
  · rename_i c
    refine List.nodup_append.mpr ⟨h, List.nodup_cons.mpr ⟨by simp, List.nodup_nil⟩, fun a ha b hb e => ?_⟩
    rw [List.mem_singleton.mp hb] at e
    exact c (e ▸ ha)
theorem mem_more {ks : List Wd} {p q : Wd} : q ∈ more ks p ↔ q ∈ ks ∨ q = p := by
  unfold more
  split
  · rename_i c
    exact ⟨.inl, fun h => h.elim id fun e => e ▸ c⟩
  · simp
theorem more_length (ks : List Wd) (p : Wd) : (more ks p).length ≤ ks.length + 1 := by
  unfold more
  split <;> simp
/-- the sorted texts of such keys -/
theorem sorted_is {ks : List Wd} {ys : List Str} (p : ys.Perm (ks.map mkS)) (u : SrtO.UpS ys) (d : ks.Nodup) : ys = (asc ks).map mkS := by
  have p2 : (ys.map fun y => y.cps.toList).Perm ks := by
    have z := p.map fun y : Str => y.cps.toList
    rw [List.map_map] at z
    have e : (fun y : Str => y.cps.toList) ∘ mkS = id := funext mkS_cps
    rw [e, List.map_id] at z
    exact z
  have u2 : (ys.map fun y => y.cps.toList).Pairwise (fun x y => ¬ y < x) := List.pairwise_map.mpr u
  have u3 := up_of_le u2 (p2.nodup_iff.mpr d)
  have e := up_uniq u3 (up_asc ks) fun x => by rw [mem_asc]; exact p2.mem_iff
  rw [← e, List.map_map]
  have e2 : mkS ∘ (fun y : Str => y.cps.toList) = id := funext mkS_of
  rw [e2, List.map_id]
/-! ### pairs of a word and a number, as data -/
abbrev pairD (f : Wd → Int) (p : Wd) : PyData := .tuple [.str (mkS p), .int (f p)]
def pairsD (f : Wd → Int) (l : List Wd) : PyData := .tuple (l.map (pairD f))
theorem dtAll_snoc {H : Hp} {S : Addr → Prop} {D t : Addr} {vs ws : List V} {ds : List PyData} {d : PyData} {o : HO} (h : DtAll H S vs ds) (hS : ∀ a, S a → a ≠ D) (ht : H t = none) (st : S t) (e : Dt (upd (upd H t (.tup ws)) D o) S (.ref t) d) :
    DtAll (upd (upd H t (.tup ws)) D o) S (vs ++ [.ref t]) (ds ++ [d]) := by
  refine DtAll.append (h.mono (fun a u sa hu => ?_) fun _ _ s _ => s) (.cons e .nil)
  rw [upd_ne (hS a sa), upd_ne (ne_of_none hu ht)]
  exact hu
end Vm

set_option Elab.async false
set_option linter.all false
set_option maxRecDepth 100000
set_option maxHeartbeats 4000000
namespace Vs
open PySem PySem.Spec PyProof.Rows L2 SrtO Vm
open PySem.Froz (SD sObj addTx tailTx sing TxOk)
section
variable {P : Program} {w : World} {A : Around} {E : Value → Shared → Prop} {s : Shared}
theorem mkS_nodup {ks : List Wd} (h : ks.Nodup) : (ks.map mkS).Nodup := List.Pairwise.map mkS (fun a b n e => n (mkS_inj e)) h
/-- sorted(set of texts), any number of them -/
theorem sorted_set_any {a : Addr} {D : SD} {l : List Str} {Q : Value → Shared → Prop} (ho : s.heap.get? a = some (sObj "set" D)) (F : Tx P w D l) (hh : A.handled = none) (hl : l.length < scanBound)
    (h : ∀ (s' : Shared) p (out : List Value) (c : Nat) (ys : List Str), (∀ b o, s.heap.get? b = some o → s'.heap.get? b = some o) → s'.gens = s.gens → s'.os = s.os → s.heap.objs.size ≤ p →
      s'.heap.get? p = some (seqObj "list" out.toArray c) → StrsAre out ys → ys.Perm l → UpS ys → Q (.ref p) s') :
    wpAny (model P w) A (call (.builtin "sorted") [.ref a]) Q E s := by
  obtain ⟨v1, v2⟩ := F.vals
  have hsz : D.1.size = l.length := F.ok.sz
  refine Calls.call_function_entry kind_sorted plain_sorted entry_sorted (args_sorted1 _) ?_
  unfold Builtin.«sorted»
  refine wpAny_bind (m := checkCount "sorted" 1 1 _) (wpAny_pure ?_)
  refine wpAny_bind (collect_set (A := A.in1) (es := D.1) (ep := D.2.1) (t := D.2.2) hh ⟨_, ho, rfl, rfl⟩ F.ok.fit (by rw [hsz]; exact hl) F.ris F.led fun s1 vs k1 z1 g1 o1 pm => ?_)
  have len : vs.length = l.length := by rw [pm.length_eq, List.length_map, Array.length_toList, hsz]
  have hS : StrsAre vs (vs.map strOf) := strs_of vs fun v hv => by
    obtain ⟨e, he, rfl⟩ := List.mem_map.mp (pm.mem_iff.mp hv)
    obtain ⟨k, tk, q, _⟩ := v1 e he
    exact ⟨k, tk, q⟩
  have pl : (vs.map strOf).Perm l := (pm.map strOf).trans (by rw [List.map_map]; exact v2)
  have hz : vs.length ≤ sizeLine := by
    rw [len, sizeLine_eq]
    exact Nat.le_trans (Nat.le_of_lt hl) (by decide)
  refine sort_collected hS hz fun h' p out c ys k2 hp hc y1 y2 y3 => ?_
  exact wpAny_pure ⟨_, rfl, h _ p out c ys (fun b u e => k2 b u (k1 b u e)) g1 o1 (Nat.le_trans z1 hp) hc y1 (y2.trans pl) y3⟩
end
section
variable {X : Cx}
/-- set(d) -/
theorem cr_setDict (hc : X.calm = true) : CallR X (.type "set") (fun xs H Q => ∃ (a : Addr) (f : Wd → V) (ks : List Wd), xs = [.ref a] ∧ Rd H a (.dK (entK f ks)) ∧ ks.Nodup ∧ ks.length ≤ 4000 ∧ ∀ p l, H p = none → l.Perm (ks.map mkS) → Q (.ref p) (upd H p (SetTxO X.prog X.w p l))) := by
  intro pins s σ H vs us Q I r h
  obtain ⟨a, f, ks, rfl, ha, nd, hl, q⟩ := h
  rw [Vals.ref1 r]
  obtain ⟨z, lo, ws, rel, dd⟩ := dk_rd I.hok ha
  have hkeys : ws.map (·.1) = (ks.map mkS).map Sum.inr := rel.keys.symm.trans (entK_keys f ks)
  refine call_set_dict dd lo hkeys (by rw [List.length_map]; exact hl) fun s' D l k g o hS F hm hn => ?_
  exact laid_new I k g o (Nat.le_refl _) (setTxO_new ⟨D, hS, F⟩) fun hn' => q _ l hn' ((perm_same (ks.map mkS) l (mkS_nodup nd) (fun k hk => (hm k).mpr hk) (Nat.le_of_eq hn)))
/-- sorted(set of texts) -/
theorem cr_sortedTxK (hc : X.calm = true) : CallR X (.builtin "sorted") (fun xs H Q => ∃ (a : Addr) (l : List Str) (ks : List Wd), xs = [.ref a] ∧ H a = some (SetTxO X.prog X.w a l) ∧ l.Perm (ks.map mkS) ∧ ks.Nodup ∧ ks.length ≤ 4000 ∧
    ∀ p, H p = none → Q (.ref p) (upd H p (.lst (((asc ks).map mkS).map .str)))) := by
  intro pins s σ H vs us Q I r h
  obtain ⟨a, l, ks, rfl, ha, pl, nd, hl, q⟩ := h
  rw [Vals.ref1 r]
  obtain ⟨D, hS, F⟩ : SetTx X.prog X.w s.heap a l := (I.hok a _ ha).1
  have ll : l.length = ks.length := by rw [pl.length_eq, List.length_map]
  refine sorted_set_any hS F (I.ok.hd hc) (by rw [ll]; exact Nat.lt_of_le_of_lt hl (by decide)) fun s' p out c ys k g o hp hg hv pm so => ?_
  have e := sorted_is (pm.trans pl) so nd
  have len : (ys.map V.str).length ≤ sizeLine := by
    rw [List.length_map, pm.length_eq, ll, sizeLine_eq]
    omega
  have new : ObjOk X.prog X.w (upd H p (.lst (ys.map V.str))) s'.heap p (.lst (ys.map .str)) := ⟨len, out, c, vals_of_strs hv, hg⟩
  refine laid_new I k g o hp new fun hn => ?_
  rw [e]
  exact q p hn
theorem cr_setDictAt {P : Program} {w : World} (hc : X.calm = true) (eP : X.prog = P) (ew : X.w = w) : CallR X (.type "set") (fun xs H Q => ∃ (a : Addr) (f : Wd → V) (ks : List Wd), xs = [.ref a] ∧ Rd H a (.dK (entK f ks)) ∧ ks.Nodup ∧ ks.length ≤ 4000 ∧ ∀ p l, H p = none → l.Perm (ks.map mkS) → Q (.ref p) (upd H p (SetTxO P w p l))) := by
  subst eP
  subst ew
  exact cr_setDict hc
theorem cr_sortedTxAt {P : Program} {w : World} (hc : X.calm = true) (eP : X.prog = P) (ew : X.w = w) : CallR X (.builtin "sorted") (fun xs H Q => ∃ (a : Addr) (l : List Str) (ks : List Wd), xs = [.ref a] ∧ H a = some (SetTxO P w a l) ∧ l.Perm (ks.map mkS) ∧ ks.Nodup ∧ ks.length ≤ 4000 ∧
    ∀ p, H p = none → Q (.ref p) (upd H p (.lst (((asc ks).map mkS).map .str)))) := by
  subst eP
  subst ew
  exact cr_sortedTxK hc
/-- sorted(d), the keys texts -/
theorem cr_sortedDK (hc : X.calm = true) : CallR X (.builtin "sorted") (fun xs H Q => ∃ (a : Addr) (f : Wd → V) (ks : List Wd), xs = [.ref a] ∧ Rd H a (.dK (entK f ks)) ∧ ks.Nodup ∧ ks.length ≤ 4000 ∧
    ∀ p, H p = none → Q (.ref p) (upd H p (.lst (((asc ks).map mkS).map .str)))) := by
  intro pins s σ H xs us Q I r q
  obtain ⟨a, f, kl, ex, hd, nd, hl4, q⟩ := q
  subst ex
  rw [Vals.ref1 r]
  obtain ⟨z, lo, vs, rel, dd⟩ := dk_rd I.hok hd
  obtain ⟨ep, hat⟩ := dd.dictAt
  generalize hkk : kl.map mkS = ks
  have hkeys : vs.map (·.1) = ks.map Sum.inr := by rw [← hkk]; exact rel.keys.symm.trans (entK_keys f kl)
  have hl : vs.length = ks.length := by
    have e := congrArg List.length hkeys
    rw [List.length_map, List.length_map] at e
    exact e
  have hl5 : ks.length ≤ 4000 := by rw [← hkk, List.length_map]; exact hl4
  have h16 : vs.length ≤ sizeLine := by rw [hl, sizeLine_eq]; omega
  refine Calls.call_function_entry PyProof.Rows.kind_sorted PyProof.Rows.plain_sorted PyProof.Rows.entry_sorted (PyProof.Rows.args_sorted1 _) ?_
  unfold Builtin.«sorted»
  refine wpAny_bind (m := checkCount "sorted" 1 1 _) (wpAny_pure ?_)
  refine wpAny_bind (PySem.W.kdu_collect (A := X.A.in1) (PySem.W.kdl_dict (knd := mixKind X.prog X.w) (kvs := vs) (ep := ep) lo) (I.ok.hd hc) hat h16 fun h' tk acc hk hacc => ?_)
  have hal : acc.toList.length = ks.length := by rw [Array.length_toList, hacc.1, hl]
  have hS : StrsAre acc.toList ks := strs_at hal fun j v e => by
    obtain ⟨k, x, e1, e2⟩ := hacc.2 j v (by rw [← Array.getElem?_toList]; exact e)
    have e3 : (vs.map (·.1))[j]? = some k := by rw [List.getElem?_map, e1]; all_goals rfl
    rw [hkeys, List.getElem?_map] at e3
    cases e4 : ks[j]? with
    | none => rw [e4] at e3; cases e3
    | some y =>
      rw [e4] at e3
      have e5 : Sum.inr y = k := Option.some.inj e3
      subst e5
      obtain ⟨t, ev⟩ := Value.isStrOf_shape (x := y) (v := v) e2
      exact ⟨y, t, rfl, ev⟩
  have I1 : Inv X pins σ H { s with heap := h', toks := tk } := I.kept hk
  have hz : acc.toList.length ≤ sizeLine := by rw [hal, sizeLine_eq]; omega
  refine sort_collected (s1 := { s with heap := h', toks := tk }) hS hz fun h2 p out c ys k2 hp hc2 y1 y2 y3 => ?_
  have e := sorted_is (by rw [hkk]; exact y2) y3 nd
  have len : (ys.map V.str).length ≤ sizeLine := by
    rw [List.length_map, y2.length_eq, sizeLine_eq]
    omega
  have new : ObjOk X.prog X.w (upd H p (.lst (ys.map V.str))) h2 p (.lst (ys.map .str)) := ⟨len, out, c, vals_of_strs y1, hc2⟩
  refine wpAny_pure ⟨_, rfl, laid_new (s' := { s with heap := h2, toks := tk }) I1 k2 rfl rfl hp new fun hn => ?_⟩
  rw [e]
  exact q p hn
end
end Vs

set_option Elab.async false
set_option linter.all false
set_option maxRecDepth 100000
set_option maxHeartbeats 4000000
namespace Vm
open PySem PySem.Spec PyProof.Rows L2 L2.Vx
/-! ### texts: joined signs, so many times, slices, find -/
theorem glue0 : ∀ (l : List Str) (a : Array Nat), (l.foldl (fun acc p => acc ++ (#[] : Array Nat) ++ p.cps) a).toList = a.toList ++ l.flatMap (fun p => p.cps.toList)
  | [], a => by simp
  | p :: r, a => by
    rw [List.foldl_cons, glue0 r]
    simp
theorem join_cps (ys : List Str) : (PySem.Txt.join "" ys).cps.toList = ys.flatMap fun y => y.cps.toList := by
  show ((ys.drop 1).foldl (fun acc p => acc ++ (#[] : Array Nat) ++ p.cps) (ys.headD Str.empty).cps).toList = _
  rw [glue0]
  cases ys with
  | nil => rfl
  | cons y r => simp
theorem join_signs (us : Wd) : PySem.Txt.join "" (us.map fun c => mkS [c]) = mkS us := by
  rw [← mkS_of (PySem.Txt.join "" (us.map fun c => mkS [c])), join_cps]
  congr 1
  induction us with
  | nil => rfl
  | cons c r ih =>
    rw [List.map_cons, List.flatMap_cons, ih]
    rfl
theorem sum_signs : ∀ us : Wd, ((us.map fun c => mkS [c]).map (·.length)).sum = us.length
  | [] => rfl
  | c :: r => by
    rw [List.map_cons, List.map_cons, List.sum_cons, sum_signs r, List.length_cons]
    show 1 + r.length = _
    omega
theorem fold_rep (x : Array Nat) : ∀ (n : Nat) (a : Array Nat), ((List.replicate n x).foldl (· ++ ·) a).toList = a.toList ++ (List.replicate n x.toList).flatten
  | 0, a => by simp
  | n + 1, a => by
    rw [List.replicate_succ, List.foldl_cons, fold_rep x n, List.replicate_succ, List.flatten_cons]
    simp
/-- a word so many times -/
def times (n : Nat) (z : Wd) : Wd := (List.replicate n z).flatten
theorem times_length (n : Nat) (z : Wd) : (times n z).length = n * z.length := by
  unfold times
  rw [List.length_flatten, List.map_replicate, List.sum_replicate_nat]
theorem times_mem {n : Nat} {z : Wd} {c : Nat} (h : c ∈ times n z) : c ∈ z := by
  obtain ⟨l, hl, hc⟩ := List.mem_flatten.mp h
  rw [List.eq_of_mem_replicate hl] at hc
  exact hc
theorem mul_times (z : Wd) (n : Nat) : PySem.Txt.mul (mkS z) (n : Int) = mkS (times n z) := by
  unfold PySem.Txt.mul
  by_cases h0 : (n : Int) < 1
  · rw [if_pos h0]
    obtain rfl : n = 0 := by omega
    rfl
  · rw [if_neg h0]
    by_cases h1 : ((n : Int) == 1 || (mkS z).length == 0) = true
    · rw [if_pos h1]
      rcases Bool.or_eq_true_iff.mp h1 with e | e
      · obtain rfl : n = 1 := by
          have := eq_of_beq e
          omega
        simp [times]
      · have e2 : z.length = 0 := by
          have := eq_of_beq e
          rw [mkS_length] at this
          exact this
        obtain rfl : z = [] := List.length_eq_zero_iff.mp e2
        have e3 : times n [] = [] := List.length_eq_zero_iff.mp (by rw [times_length]; simp)
        rw [e3]
    · rw [if_neg h1]
      have e : (n : Int).toNat = n := by omega
      rw [e, ← mkS_of (⟨_⟩ : Str)]
      congr 1
      show ((List.replicate n (mkS z).cps).foldl (· ++ ·) #[]).toList = _
      rw [fold_rep, mkS_cps]
      rfl
theorem mulOk_of {z : Wd} {n : Nat} (h1 : z.length ≤ 4000) (h2 : n ≤ 4000) : MulOk (mkS z) (n : Int) := by
  unfold MulOk
  rw [mkS_length]
  have e : (n : Int).toNat = n := by omega
  rw [e]
  refine ⟨?_, fun h3 _ h5 => ?_, fun _ _ => ?_⟩
  · have a1 : ¬ (n : Int) < -(2 ^ 63 : Int) := by omega
    have a2 : ¬ (n : Int) ≥ 2 ^ 63 := by omega
    rw [decide_eq_false a1, decide_eq_false a2]
    rfl
  · have : (4000 : Int) ≤ (2 ^ 63 - 1) / n := by
      rw [Int.le_ediv_iff_mul_le (by omega)]
      omega
    omega
  · have : z.length * n ≤ 4000 * 4000 := Nat.mul_le_mul h1 h2
    unfold Builtin.Str.tooLong
    rw [decide_eq_false]
    rw [sizeLine_eq]
    omega
theorem cut_head {z : Wd} (n : Nat) : cutS (mkS z) none (some (n : Int)) = mkS (z.take n) := by
  unfold cutS
  rw [mkS_length, mkS_cps]
  have e1 : HT.sIx z.length 0 none = 0 := rfl
  have e2 : HT.sIx z.length z.length (some (n : Int)) = min n z.length := HT.sIx_nat _ _ n
  rw [e1, e2, List.drop_zero, Nat.sub_zero]
  show mkS (z.take (min n z.length)) = _
  congr 1
  rw [List.take_eq_take_iff]
  omega
/-- find from a place on -/
theorem at_win {k : Nat} {z p : Wd} (hp : p.length = k) (i : Nat) : StrLaws.At (mkS z) (mkS p) (mkS z).length i ↔ i < z.length + 1 - k ∧ win k z i = p := by
  unfold StrLaws.At
  rw [StrLaws.subAt_eq, mkS_length, mkS_length, mkS_cps, mkS_cps, hp, beq_iff_eq]
  constructor
  · rintro ⟨h1, h2⟩
    exact ⟨by omega, h2⟩
  · rintro ⟨h1, h2⟩
    exact ⟨by omega, h2⟩
theorem find3_win {k j : Nat} {z p : Wd} (hp : p.length = k) (hj : j ≤ z.length) :
    (PySem.Txt.find3 (mkS z) (mkS p) (j : Int) = -1 ∧ ∀ i, j ≤ i → i < z.length + 1 - k → win k z i ≠ p) ∨
    ∃ i : Nat, PySem.Txt.find3 (mkS z) (mkS p) (j : Int) = (i : Int) ∧ j ≤ i ∧ i < z.length + 1 - k ∧ win k z i = p ∧ ∀ i', j ≤ i' → i' < i → i' < z.length + 1 - k → win k z i' ≠ p := by
  have ef : fromIndex (mkS z).length (j : Int) = j := by
    rw [mkS_length]
    simp [fromIndex]
    try omega
  unfold PySem.Txt.find3
  rw [ef]
  rcases StrLaws.occ_head_from (mkS z) (mkS p) j 1 (Nat.le_refl 1) with ⟨h0, hn⟩ | ⟨i, r, h0, hlo, hk, hn⟩
  · rw [h0]
    exact .inl ⟨rfl, fun i h1 h2 e => hn i h1 ((at_win hp i).mpr ⟨h2, e⟩)⟩
  · rw [h0]
    obtain ⟨h2, e⟩ := (at_win hp i).mp hk
    exact .inr ⟨i, rfl, hlo, h2, e, fun i' h3 h4 h5 e' => hn i' h3 h4 ((at_win hp i').mpr ⟨h5, e'⟩)⟩
theorem find_win {k : Nat} {z p : Wd} (hp : p.length = k) :
    (PySem.Txt.find (mkS z) (mkS p) = -1 ∧ ∀ i, 0 ≤ i → i < z.length + 1 - k → win k z i ≠ p) ∨
    ∃ i : Nat, PySem.Txt.find (mkS z) (mkS p) = (i : Int) ∧ 0 ≤ i ∧ i < z.length + 1 - k ∧ win k z i = p ∧ ∀ i', 0 ≤ i' → i' < i → i' < z.length + 1 - k → win k z i' ≠ p := by
  rw [find_is_find3]
  exact find3_win (j := 0) hp (Nat.zero_le _)
/-- what the search has found so far -/
def Seen (k : Nat) (z p : Wd) (found at_ : Int) : Prop := (at_ = -1 ∧ found = (often k z p : Nat)) ∨ ∃ i : Nat, at_ = (i : Int) ∧ i < z.length + 1 - k ∧ win k z i = p ∧ found = (upto k z p i : Nat)
theorem seen_start {k : Nat} {z p : Wd} (hp : p.length = k) : Seen k z p 0 (PySem.Txt.find (mkS z) (mkS p)) := by
  have e0 : upto k z p 0 = 0 := rfl
  rcases find_win (z := z) hp with ⟨h, hn⟩ | ⟨i, h, _, h1, h2, h3⟩
  · refine .inl ⟨h, ?_⟩
    have e := upto_none (Nat.zero_le (z.length + 1 - k)) fun i a b c => hn i a c
    rw [upto_all (Nat.le_refl _), e0] at e
    rw [e]
    rfl
  · refine .inr ⟨i, h, h1, h2, ?_⟩
    rw [upto_none (Nat.zero_le i) h3, e0]
    rfl
theorem seen_next {k i : Nat} {z p : Wd} (hp : p.length = k) (hk : 1 ≤ k) (h1 : i < z.length + 1 - k) (h2 : win k z i = p) : Seen k z p ((upto k z p i : Nat) + 1) (PySem.Txt.find3 (mkS z) (mkS p) ((i : Int) + 1)) := by
  have e0 := upto_hit h1 h2
  have ej : ((i : Int) + 1) = ((i + 1 : Nat) : Int) := by omega
  rw [ej]
  rcases find3_win (z := z) (j := i + 1) hp (by omega) with ⟨h, hn⟩ | ⟨j, h, h0, h3, h4, h5⟩
  · refine .inl ⟨h, ?_⟩
    have e := upto_none (k := k) (z := z) (p := p) (a := i + 1) (b := z.length + 1 - k) (by omega) fun i' a b c => hn i' a c
    rw [upto_all (Nat.le_refl _), e0] at e
    rw [e]
    omega
  · refine .inr ⟨j, h, h3, h4, ?_⟩
    rw [upto_none h0 h5, e0]
    omega
end Vm

set_option Elab.async false
set_option linter.all false
set_option maxRecDepth 100000
set_option maxHeartbeats 4000000
namespace Vf
open PySem PySem.Spec PyProof.Rows L2 L2.Vx Vs
/-! ### calls by keyword alone; a text so many times -/
section
variable {X : Cx} {CX : CXT} {k : Nat} {f : Addr} {fd : FuncData} {ps ks : List Str} {sp : Sp} {E : XK} {x : Str} {p pos : Pos} {kws : List Keyword} {tk : TA} {g : List Value → List Value → List Value} {gV : List V → List V → List V}
def tCallK0 (sp : Sp) (gV : List V → List V → List V) (E : XK) (tk : TA) : TE := fun σ H Q => tk σ H fun zs H2 => sp (gV [] zs) H2 Q E
theorem pe_callK0 (F : FnOk X.prog X.w X.K X.mg X.base CX k f fd ps sp) (hr : Room k X.A) (hm : X.mg x = some (.ref f)) (hk : PySem.W.keepIn X.K (.ref f) = true) (hb : KBinds X.K fd ps ks g gV) (hx : Passes CX X E) (hkw : PK X kws tk)
    (hg : Gl X x := by rfl) (hall : (backToKw pos (keywordEach kws X.env)).all (·.1.isSome) = true := by rfl) (hks : (backToKw pos (keywordEach kws X.env)).filterMap (·.1) = ks := by rfl) (hdb : (x == ("__debug__" : Str)) = false := by decide)
    (hpl : ((backTo pos (starEach [] X.env)).any (·.1) || (backToKw pos (keywordEach kws X.env)).any (·.1.isNone)) = false := by rfl) : PE X (.Call (.Name x p) [] kws pos) (tCallK0 sp gV E tk) := by
  refine ⟨fun pins s σ H Q I h => ?_⟩
  refine wpAny_Call_Name_kw (ld_glob I hg hm ?_ hdb)
  refine PySem.W.callWith_KW0 (h₀ := X.base) I.ok.mod.kin hk hall (thn (hkw.run pos pins s σ H _ I h) fun ws s2 ⟨zs, H2, I2, rz, q2⟩ => ⟨I2.kIn, ?_⟩) hpl
  rw [hks]
  exact run_fnk F hr hb hx I2 .nil rz q2
theorem op_mul_str : OpR X (binaryOp .Mult) (fun x y H Q => ∃ a n, x = .str a ∧ y = .int n ∧ MulOk a n ∧ Q (.str (PySem.Txt.mul a n)) H) := by
  intro pins s σ H x y v u Q I rx ry h
  obtain ⟨a, n, rfl, rfl, ok, q⟩ := h
  obtain ⟨t, rfl⟩ := rx
  obtain ⟨t', rfl⟩ := ry
  exact SB.mul ok fun t' k => ⟨.str _, H, I.tok _, ⟨_, rfl⟩, q⟩
end
/-- by name, the last one first -/
def gRev {α : Type} : List α → List α → List α
  | [], ws => ws.reverse
  | _ :: _, _ => []
theorem vals_rev {vs : List V} {us : List Value} (r : Vals vs us) : Vals vs.reverse us.reverse := by
  induction r with
  | nil => exact .nil
  | cons h t ih =>
    rw [List.reverse_cons, List.reverse_cons]
    have app : ∀ {as : List V} {bs : List Value} {cs : List V} {ds : List Value}, Vals as bs → Vals cs ds → Vals (as ++ cs) (bs ++ ds) := by
      intro as bs cs ds a b
      induction a with
      | nil => exact b
      | cons h _ ih => exact .cons h ih
    exact app ih (.cons h .nil)
theorem gRev_vals {v1 v2 : List V} {u1 u2 : List Value} (r1 : Vals v1 u1) (r2 : Vals v2 u2) : Vals (gRev v1 v2) (gRev u1 u2) := by
  cases r1 with
  | nil => exact vals_rev r2
  | cons _ _ => exact .nil
end Vf

set_option Elab.async false
set_option linter.all false
set_option maxRecDepth 100000
set_option maxHeartbeats 4000000
namespace Vm
open PySem PySem.Spec PyProof.Rows L2 L2.Vx
/-! ### data that can be shown, and how long that is -/
structure Fit (b e : Nat) (D : PyData) : Prop where
  sh : D.showable = true
  len : D.shown.length ≤ b
  dep : D.depth ≤ e
theorem Fit.le {b e b' e' : Nat} {D : PyData} (h : Fit b e D) (h1 : b ≤ b') (h2 : e ≤ e') : Fit b' e' D := ⟨h.sh, Nat.le_trans h.len h1, Nat.le_trans h.dep h2⟩
theorem fit_str {z : Wd} {n : Nat} (h : ∀ c ∈ z, c < 1000) (hn : z.length ≤ n) : Fit (10 * n + 2) 0 (.str (mkS z)) := by
  refine ⟨rfl, ?_, by simp [PyData.depth]⟩
  show (PySem.reprText (mkS z)).length ≤ _
  have q := StrLaws.reprText_len (mkS z) fun c hc => by
    rw [mkS_cps] at hc
    exact Nat.lt_trans (h c hc) (by decide)
  rw [mkS_length] at q
  omega
theorem fit_int {n : Int} (h0 : 0 ≤ n) (h1 : n < 10 ^ 10) : Fit 10 0 (.int n) := by
  refine ⟨?_, ?_, by simp [PyData.depth]⟩
  · show decide (n.natAbs.log2 < 1920) = true
    refine decide_eq_true ?_
    have a : n.natAbs < 2 ^ 40 := Nat.lt_of_lt_of_le (show n.natAbs < 10 ^ 10 by omega) (by decide)
    by_cases c : n.natAbs = 0
    · rw [c]; decide
    · exact Nat.lt_trans ((Nat.log2_lt c).mpr a) (by decide)
  · exact toString_length_le h0 (by decide) h1
theorem fit_all {b e : Nat} : ∀ {ds : List PyData}, (∀ x ∈ ds, Fit b e x) → PyData.showableAll ds = true ∧ ((PyData.shownAll ds).map (·.length)).sum ≤ ds.length * b ∧ (PyData.shownAll ds).length = ds.length ∧ PyData.depthAll ds ≤ e
  | [], _ => ⟨rfl, by simp [PyData.shownAll], rfl, Nat.zero_le _⟩
  | x :: r, h => by
    obtain ⟨i1, i2, i3, i4⟩ := fit_all fun y hy => h y (List.mem_cons_of_mem _ hy)
    have hx := h x (List.mem_cons_self ..)
    have h2 := hx.len
    have h3 := hx.dep
    refine ⟨by simp only [PyData.showableAll, hx.sh, i1, Bool.and_self], ?_, ?_, ?_⟩
    · simp only [PyData.shownAll, List.map_cons, List.sum_cons, List.length_cons, Nat.add_mul, Nat.one_mul]
      omega
    · simp only [PyData.shownAll, List.length_cons, i3]
    · simp only [PyData.depthAll]
      exact Nat.max_le.mpr ⟨h3, i4⟩
theorem fit_tup {b e : Nat} {ds : List PyData} (h : ∀ x ∈ ds, Fit b e x) : Fit (ds.length * (b + 2) + 3) (e + 1) (.tuple ds) := by
  obtain ⟨i1, i2, i3, i4⟩ := fit_all h
  refine ⟨by simpa only [PyData.showable] using i1, ?_, by simp only [PyData.depth]; omega⟩
  simp only [PyData.shown]
  refine Nat.le_trans (tupleText_len_le _) ?_
  rw [i3, Nat.mul_add]
  omega
theorem fit_lst {b e : Nat} {ds : List PyData} (h : ∀ x ∈ ds, Fit b e x) : Fit (ds.length * (b + 2) + 3) (e + 1) (.list ds) := by
  obtain ⟨i1, i2, i3, i4⟩ := fit_all h
  refine ⟨by simpa only [PyData.showable] using i1, ?_, by simp only [PyData.depth]; omega⟩
  simp only [PyData.shown]
  refine Nat.le_trans (listText_len_le _) ?_
  rw [i3, Nat.mul_add]
  omega
/-- a tuple of pairs of words of at most n signs and numbers -/
theorem fit_pairs {f : Wd → Int} {l : List Wd} {n m : Nat} (h1 : ∀ p ∈ l, p.length ≤ n ∧ (∀ c ∈ p, c < 1000) ∧ 0 ≤ f p ∧ f p < 10 ^ 10) (hl : l.length ≤ m) (hn : n ≤ 100) : Fit (m * (2 * (10 * n + 14) + 5) + 3) 2 (pairsD f l) := by
  have one : ∀ x ∈ l.map (pairD f), Fit (2 * (10 * n + 14) + 3) 1 x := by
    intro x hx
    obtain ⟨p, hp, rfl⟩ := List.mem_map.mp hx
    obtain ⟨a1, a2, a3, a4⟩ := h1 p hp
    refine (fit_tup (b := 10 * n + 12) (e := 0) fun y hy => ?_).le (by simp) (Nat.le_refl _)
    rcases List.mem_cons.mp hy with rfl | hy
    · exact (fit_str a2 a1).le (by omega) (Nat.le_refl _)
    · rw [List.mem_singleton.mp hy]
      exact (fit_int a3 a4).le (by omega) (Nat.le_refl _)
  refine (fit_tup one).le ?_ (Nat.le_refl _)
  rw [List.length_map, show 2 * (10 * n + 14) + 3 + 2 = 2 * (10 * n + 14) + 5 by omega]
  have := Nat.mul_le_mul_right (2 * (10 * n + 14) + 5) hl
  omega
theorem Fit.shows {b e : Nat} {D : PyData} (h : Fit b e D) (h1 : b ≤ 1000000) (h2 : e ≤ 60) : Shows D := ⟨h.sh, Nat.le_trans h.len h1, Nat.le_trans h.dep h2⟩
end Vm
namespace Vf
open PySem PySem.Spec PyProof.Rows L2 L2.Vx
/-! ### a def that is called where repr is allowed, by one that is called so -/
section
variable {X : Cx} {k : Nat} {f : Addr} {fd : FuncData} {ps : List Str} {sp : Sp} {E : XK} {x : Str} {p pos : Pos} {ds : List Value} {dvs : List V} {t : TA} {e : Expr} {es : List Expr}
theorem run_fnG {pins : List (Addr × Obj)} {σ : L2.St} {H : Hp} {s : Shared} {Q : VK} {us : List Value} {vs : List V} (F : FnG X.prog X.w X.K X.mg X.base k f fd ps sp) (len : ∀ vs H Q E, sp vs H Q E → vs.length = ps.length) (hgd : X.A.guards = some []) (hr : Room k X.A)
    (hb : L2.Binds X.K fd ps ds) (hd : Vals dvs ds) (hx : Passes CX0 X E) (I : Inv X pins σ H s) (r : Vals vs us) (h : sp (vs ++ dvs) H Q E) : wpAny (model X.prog X.w) X.A (call (.ref f) us) (EP X pins σ Q) X.xe s := by
  have both : Vals (vs ++ dvs) (us ++ ds) := r.append hd
  have many : (us ++ ds).length = ps.length := by rw [← both.length]; exact len _ _ _ _ h
  refine wpAny_call (codeAny_mono (F.run X.A X.stack s H ⟨us, []⟩ (us ++ ds) (vs ++ dvs) Q E hr hgd I.env0 (hb s us I.kIn many) both h) fun res s' hq => ?_)
  match res, hq with
  | .error err, hq => exact hx pins σ H s err s' I hq
  | .ok (.ret u), hq => exact I.after hq
  | .ok .next, hq => exact False.elim hq
  | .ok .brk, hq => exact False.elim hq
  | .ok .cont, hq => exact False.elim hq
theorem pe_callG (F : FnG X.prog X.w X.K X.mg X.base k f fd ps sp) (len : ∀ vs H Q E, sp vs H Q E → vs.length = ps.length) (hgd : X.A.guards = some []) (hr : Room k X.A) (hg : Gl X x) (hm : X.mg x = some (.ref f)) (hk : PySem.W.keepIn X.K (.ref f) = true) (hb : L2.Binds X.K fd ps ds) (hd : Vals dvs ds) (hx : Passes CX0 X E)
    (ha : PA X (e :: es) t) (hdb : (x == ("__debug__" : Str)) = false := by decide) (he : starEach (e :: es) X.env = (false, eval e X.env) :: starEach es X.env := by rfl) (hpl : (backTo pos (starEach es X.env)).any (·.1) = false := by rfl) :
    PE X (.Call (.Name x p) (e :: es) [] pos) (tCall sp dvs E t) := by
  refine ⟨fun pins s σ H Q I h => wpAny_Call_Name_kw (ld_glob I hg hm ?_ hdb)⟩
  refine PySem.W.callWith_K (h₀ := X.base) I.ok.mod.kin hk (thn (ha.run pos pins s σ H _ I h) fun us s1 ⟨vs, H1, I1, r, q⟩ => ⟨I1.kIn, ?_⟩) he hpl
  exact run_fnG F len hgd hr hb hd hx I1 r q
end
end Vf

set_option Elab.async false
set_option linter.all false
set_option maxRecDepth 100000
set_option maxHeartbeats 4000000
namespace Vs
open PySem PySem.Spec PyProof.Rows L2 SrtO Vm
theorem strs_vals : ∀ {l : List Str} {its : List Value}, Vals (l.map V.str) its → StrsAre its l
  | [], its, h => by cases h; exact .nil
  | x :: l, its, h => by
    rw [List.map_cons] at h
    cases h with
    | cons r rr =>
      obtain ⟨t, rfl⟩ := r
      exact .cons _ _ (strs_vals rr)
section
variable {X : Cx}
/-- sorted(xs), texts, any number of them -/
theorem cr_sortedTL : CallR X (.builtin "sorted") (fun xs H Q => ∃ (a : Addr) (ks : List Wd), xs = [.ref a] ∧ SqL X.K H a ((ks.map mkS).map .str) ∧
    ∀ (ms : List Wd) p, ms.Perm ks → ms.Pairwise (fun x y => ¬ y < x) → H p = none → Q (.ref p) (upd H p (.lst ((ms.map mkS).map .str)))) := by
  intro pins s σ H vs us Q I r h
  obtain ⟨a, ks, rfl, hs, q⟩ := h
  obtain ⟨its, rv, hl, hz⟩ := I.list hs
  rw [Vals.ref1 r]
  have hi := strs_vals rv
  refine SrtO.sorted_ord SrtO.swo_text hl.isList (by rw [← rv.length]; exact hz) (fun h2 h₁ a' _ _ => SrtO.texts_sortable hi h2) fun out h1 h2 => ?_
  obtain ⟨k1, k2, k3⟩ := SrtO.texts_out hi h1 h2
  obtain ⟨ep, he'⟩ := PyProof.Rows.sortedAll_at s.heap its out.toArray
  have e : out.map strOf = ((out.map strOf).map fun y => y.cps.toList).map mkS := by
    rw [List.map_map, show (mkS ∘ fun y : Str => y.cps.toList) = id from funext fun y => mkS_of y, List.map_id]
  have pm : ((out.map strOf).map fun y => y.cps.toList).Perm ks := by
    have z := k2.map fun y : Str => y.cps.toList
    rw [List.map_map (l := ks)] at z
    have e2 : (fun y : Str => y.cps.toList) ∘ mkS = id := funext mkS_cps
    rw [e2, List.map_id] at z
    exact z
  have up : ((out.map strOf).map fun y => y.cps.toList).Pairwise (fun x y => ¬ y < x) := List.pairwise_map.mpr k3
  have hlen : ((out.map strOf).map V.str).length ≤ sizeLine := by
    rw [List.length_map, k2.length_eq]
    rw [List.length_map] at hz
    exact hz
  have fin := q _ (s.heap.objs.size + 1) pm up (I.hok.fresh (Nat.le_succ _))
  rw [← e] at fin
  exact ⟨.ref _, upd H (s.heap.objs.size + 1) (.lst ((out.map strOf).map V.str)), I.laid (t' := s.toks) (fun _ _ => PyProof.Rows.sortedAll_old) (Nat.le_succ _) ⟨hlen, out, ep, vals_of_strs k1, he'⟩, rfl, fin⟩
/-- z[::-1] -/
def tRevS (te : TE) : TE := fun σ H Q => te σ H fun x H1 => ∃ z : Wd, x = .str (mkS z) ∧ z.length ≤ sizeLine ∧ Q (.str (mkS z.reverse)) H1
theorem rev_idx (n : Nat) : Builtin.Str.strSliceIndices none none (-1) n = (List.range n).reverse := by
  have e : Builtin.Str.strSliceIndices none none (-1) n = sliceRange ((n : Int) - 1) (-1) (-1) := rfl
  rw [e, PySem.W.krv_sliceRange, PySem.W.krv_range]
theorem rev_text (z : Wd) : (⟨((Builtin.Str.strSliceIndices none none (-1) (mkS z).length).filterMap ((mkS z).cps[·]?)).toArray⟩ : Str) = mkS z.reverse := by
  rw [rev_idx, List.filterMap_reverse]
  have e := PySem.W.krv_all (mkS z).cps
  have e2 : (mkS z).length = (mkS z).cps.size := rfl
  rw [e2, e, mkS_cps]
  rfl
theorem pe_revS {e : Expr} {te : TE} {k : Nat} {p1 p2 p3 pos : Pos} (he : PE X e te) : PE X (.Subscript e (.Slice none none (some (.UnaryOp .USub (.Constant (.int 1) k p1) p2)) p3) pos) (tRevS te) := by
  refine ⟨fun pins s σ H Q I h => ?_⟩
  refine Subscript_ (thn (he.run pins s σ H _ I h) fun v s1 ⟨x, H1, I1, r1, q1⟩ => ?_)
  obtain ⟨z, ex, hx, q⟩ := q1
  subst ex
  obtain ⟨t, rfl⟩ := r1
  have hst : PO X (some (.UnaryOp .USub (.Constant (.int 1) k p1) p2)) (tPart (tUn (rU fun i => .int (-i)) (tC (.int 1)))) := po_some (pe_un un_neg pe_int)
  refine wpAny_Slice (thn (po_none.run pins s1 σ H1 (fun o H2 => o = none ∧ H2 = H1) I1 ⟨rfl, rfl⟩) fun vl s2 ⟨l, H2, I2, pl, el, e2⟩ => ?_)
  subst el e2
  refine thn (po_none.run pins s2 σ H2 (fun o H3 => o = none ∧ H3 = H2) I2 ⟨rfl, rfl⟩) fun vu s3 ⟨u, H3, I3, pu, eu, e3⟩ => ?_
  subst eu e3
  refine thn (hst.run pins s3 σ H3 (fun o H4 => o = some (-1) ∧ H4 = H3) I3 ⟨1, rfl, -1, rfl, rfl, rfl⟩) fun vs s4 ⟨o, H4, I4, ps, eo, e4⟩ => ?_
  subst eo e4
  have I5 : Inv X pins σ H4 { s4 with heap := s4.heap.push { cls := .type "slice", data := .fields #[vl, vu, vs] } } := I4.kept (t' := s4.toks) fun b ob q => Heap.get?_push_of_some _ q
  obtain ⟨l0, rfl, el0⟩ := IsPart.raw pl
  obtain ⟨u0, rfl, eu0⟩ := IsPart.raw pu
  obtain ⟨w0, rfl, ew0⟩ := IsPart.raw ps
  show wpAny (model X.prog X.w) X.A (subscriptTail e (.Slice none none (some (.UnaryOp .USub (.Constant (.int 1) k p1) p2)) p3) (.str (mkS z) t) (.ref s4.heap.objs.size)) (EP X pins σ Q) X.xe { s4 with heap := s4.heap.push { cls := .type "slice", data := .fields #[partValue l0, partValue u0, partValue w0] } }
  refine tail_any (ops := [.str (mkS z) t, .ref s4.heap.objs.size]) (typeIs_str _ _ _) (F.slot_str_getitem.lookup) ?_ (by with_unfolding_all rfl)
  obtain ⟨os, hos, hcs, hds⟩ := Heap.IsSliceOf.new s4.heap (partValue l0) (partValue u0) (partValue w0)
  refine wpAny_getItem_str_slice (l := l0) (u := u0) (st := w0) ⟨os, hos, hcs, hds⟩ (by rw [ew0]; rfl) ?_
  unfold sliceMade slicePicked
  rw [el0, eu0, ew0]
  rw [if_neg (by intro z; exact absurd z (by simp))]
  show Made.post (.str (⟨((Builtin.Str.strSliceIndices none none (-1) (mkS z).length).filterMap ((mkS z).cps[·]?)).toArray⟩ : Str)) (EP X pins σ Q) _
  rw [rev_text]
  refine ⟨by rw [mkS_length, List.length_reverse]; exact hx, .str _, H4, I5.tok _, ⟨_, rfl⟩, q⟩
end
end Vs

set_option Elab.async false
set_option linter.all false
set_option maxRecDepth 100000
set_option maxHeartbeats 4000000
namespace Vs
open PySem PySem.Spec PyProof.Rows L2 SrtO Vm
open PySem.Froz (SD sObj addTx tailTx sing TxOk)
section
variable {P : Program} {w : World} {A : Around} {E : Value → Shared → Prop} {s : Shared}
/-- the loop that puts the texts of a list in -/
theorem loop_txs {I : Addr} {fp wr : List Addr} {G : Array GenState → Array GenState → Prop} {n : Nat} {xs : List Str} {Pv : Nat → Value → Prop} {St : Nat → Shared → Prop} {R : Result → Shared → Prop}
    (W : WalksS P w A.in1 I fp wr G n Pv St) (S : Addr) (hSf : S ∉ fp) (hn : n = xs.length) (hb : n + 1 < scanBound) (hval : ∀ i v, Pv i v → ∃ k u, xs[i]? = some k ∧ v = .str k u) :
    ∀ (m i : Nat) (s : Shared), n - i = m → i ≤ n → St i s → (∃ D l, s.heap.get? S = some (sObj "set" D) ∧ Tx P w D l ∧ l.length ≤ i ∧ ∀ k, k ∈ l ↔ k ∈ xs.take i) →
      (∀ s' D l, Moved (S :: wr) G s s' → s'.heap.get? S = some (sObj "set" D) → Tx P w D l → l.length ≤ n → (∀ k, k ∈ l ↔ k ∈ xs) → R (.ok (.ret .none)) s') →
      codeAny (model P w) A (.builtin "set.update.loop" ⟨[.ref S, .ref I], []⟩) R s := by
  have hSw : S ∉ wr := fun h => hSf (W.sub _ h)
  have more : ∀ b ∈ wr, b ∈ S :: wr := fun b => List.mem_cons_of_mem _
  intro m
  induction m with
  | zero =>
    intro i s hm hi hst ⟨D, l, hS, F, hl, hmem⟩ hR
    obtain rfl : i = n := by omega
    refine codeAny_builtin PyProof.Rows.F.entry_set_update_loop ?_
    rw [Around.under_plainId PyProof.Rows.F.plain_set_update_loop _]
    refine wpAny_bind (W.done s _ _ hst fun s' mv => wpAny_pure (hR s' D l (mv.mono more) (mv.heap S _ hSw hS) F hl fun k => ?_))
    rw [hmem k, List.take_of_length_le (Nat.le_of_eq hn.symm)]
  | succ m ih =>
    intro i s hm hi hst ⟨D, l, hS, F, hl, hmem⟩ hR
    refine codeAny_builtin PyProof.Rows.F.entry_set_update_loop ?_
    rw [Around.under_plainId PyProof.Rows.F.plain_set_update_loop _]
    refine wpAny_bind (W.item i s _ _ (by omega) hst fun v s1 hP hst1 mv => ?_)
    obtain ⟨y, u, hp, rfl⟩ := hval i v hP
    have hS1 := mv.heap S _ hSw hS
    have hnx : ∀ k, k ∈ xs.take (i + 1) ↔ k ∈ l ∨ k = y := fun k => by
      rw [List.take_add_one, hp, List.mem_append, ← hmem k]
      simp
    refine wpAny_bind (wpAny_holding ?_)
    unfold setAdd
    refine wpAny_holding (wpAny_bind ((strKind P w).pyHash (k := y) (Froz.is_str _ _) ?_))
    by_cases hk : y ∈ l
    · refine add_old (s := { s1 with toks := s1.toks + 1 }) hS1 F.ok hk (by omega) ?_
      refine wpAny_pure ⟨plainId_quiet PyProof.Rows.F.plain_set_update_loop _, ih (i + 1) _ (by omega) (by omega) (W.frame _ s1 _ _ hst1 (Nat.le_succ _) fun b _ o e => e) ⟨D, l, hS1, F, by omega, fun k => ?_⟩ fun s2 D2 l2 mv2 hS2 F2 n2 h2 => ?_⟩
      · rw [hnx k]
        exact ⟨.inl, fun z => z.elim id fun z => z ▸ hk⟩
      · exact hR s2 D2 l2 (Moved.trans W.gtrans ((mv.mono more).then_heap (Nat.le_succ _) fun b o _ e => e) mv2) hS2 F2 n2 h2
    · refine Froz.add_x (s := { s1 with toks := s1.toks + 1 }) hS1 F.ok hk (by omega) ?_
      have hS2 : (s1.heap.update S (fun _ => sObj "set" (addTx (hashStr w y) (.str y u) D))).get? S = some (sObj "set" (addTx (hashStr w y) (.str y u) D)) := Froz.get_upd _ hS1 rfl
      have other : ∀ b o, b ≠ S → s1.heap.get? b = some o → (s1.heap.update S (fun _ => sObj "set" (addTx (hashStr w y) (.str y u) D))).get? b = some o := fun b o n e => (Heap.get?_update_other _ _ (Ne.symm n)).trans e
      refine wpAny_pure ⟨plainId_quiet PyProof.Rows.F.plain_set_update_loop _, ih (i + 1) _ (by omega) (by omega) (W.frame _ s1 _ _ hst1 (Nat.le_succ _) fun b hb' o e => other b o (fun z => hSf (z ▸ hb')) e) ⟨_, y :: l, hS2, F.add u hk, (by simp only [List.length_cons]; omega), fun k => ?_⟩ fun s2 D2 l2 mv2 hS3 F2 n2 h2 => ?_⟩
      · rw [hnx k, List.mem_cons]
        exact Or.comm
      · exact hR s2 D2 l2 (Moved.trans W.gtrans ((mv.mono more).then_heap (Nat.le_succ _) fun b o nb e => other b o (fun z => nb (z ▸ List.mem_cons_self ..)) e) mv2) hS3 F2 n2 h2
/-- set(list of texts) -/
theorem call_set_list {l : Addr} {items : Array Value} {xs : List Str} {Q : Value → Shared → Prop} (hh : A.handled = none) (hl : s.heap.IsList l items) (hx : StrsAre items.toList xs) (hb : xs.length + 1 < scanBound)
    (h : ∀ (s' : Shared) D m, (∀ b o, s.heap.get? b = some o → s'.heap.get? b = some o) → s'.gens = s.gens → s'.os = s.os → s'.heap.get? s.heap.objs.size = some (sObj "set" D) → Tx P w D m → m.length ≤ xs.length → (∀ k, k ∈ m ↔ k ∈ xs) → Q (.ref s.heap.objs.size) s') :
    wpAny (model P w) A (call (.type "set") [.ref l]) Q E s := by
  refine set_by_init fun R hR => ?_
  have hlen : items.size = xs.length := by
    have q := StrsAre.length hx
    rw [Array.length_toList] at q
    exact q
  have hS : (s.heap.push (sObj "set" (emptyD w))).get? s.heap.objs.size = some (sObj "set" (emptyD w)) := Heap.get?_push_size _ rfl
  have hold : ∀ b o, s.heap.get? b = some o → (s.heap.push (sObj "set" (emptyD w))).get? b = some o := fun b o e => Heap.get?_push_of_some _ e
  have hl1 : (s.heap.push (sObj "set" (emptyD w))).IsList l items := hl.push _
  have hls : l ≠ s.heap.objs.size := by
    obtain ⟨_, e, _⟩ := hl
    exact Nat.ne_of_lt (Heap.lt_size e)
  have t1 := F.sub_list_set
  have t2 := F.sub_list_frozenset
  have t3 : (Value.type "list" == Value.type "dict") = false := by decide
  have hty : Shared.TypeIs { s with heap := s.heap.push (sObj "set" (emptyD w)) } (.ref l) "list" := hl1.typeIs (s := { s with heap := s.heap.push (sObj "set" (emptyD w)) })
  generalize s.heap.push (sObj "set" (emptyD w)) = h1 at hS hold hl1 hty ⊢
  unfold Builtin.«set.__init__» noKeywords Builtin.Frozenset.updateFrom
  generalize hPI : pyIter = PI
  wp_walk
  subst hPI
  refine iter_any hl1 fun s2 e2 st hne => wpAny_bind (wpAny_runValue ?_)
  subst e2
  have hx1 : ∀ b u', h1.get? b = some u' → b ≠ h1.objs.size := fun b u' e => Nat.ne_of_lt (Heap.lt_size e)
  have hSf : s.heap.objs.size ∉ [h1.objs.size, l] := fun z => by
    rcases List.mem_cons.mp z with z | z
    · exact hx1 _ _ hS z
    · exact hls (List.mem_singleton.mp z).symm
  have hval : ∀ (i : Nat) (v : Value), items[i]? = some v → ∃ k u, xs[i]? = some k ∧ v = .str k u := fun i v hv => by
    have hi : i < xs.length := by rw [← hlen]; exact (Array.getElem?_eq_some_iff.mp hv).1
    obtain ⟨t, e⟩ := SS.strs_at hx i v (by rw [Array.getElem?_toList]; exact hv)
    refine ⟨xs[i], t, List.getElem?_eq_getElem hi, ?_⟩
    rw [e, List.getD_eq_getElem?_getD, List.getElem?_eq_getElem hi] <;> rfl
  refine loop_txs ((Walks.list (by simp [hh]) _ l hne items).toS) s.heap.objs.size hSf hlen (by rw [hlen]; exact hb) hval _ 0 _ rfl (Nat.zero_le _) st ⟨_, [], Heap.get?_push_of_some _ hS, tx_empty, Nat.le_refl _, fun k => by simp⟩ fun s2 D m mv hS2 F hm1 hm => ?_
  refine wpAny_pure (wpAny_pure (hR _ (h s2 D m (fun b o' e => ?_) mv.gens mv.os hS2 F (by rw [← hlen]; exact hm1) hm)))
  refine mv.heap b o' (fun z => ?_) (Heap.get?_push_of_some _ (hold b o' e))
  rcases List.mem_cons.mp z with z | z
  · rw [z] at e
    exact Nat.lt_irrefl _ (Heap.lt_size e)
  · exact hx1 _ _ (hold b o' e) (List.mem_singleton.mp z)
end
section
variable {X : Cx}
/-- set(xs), texts, then sorted -/
theorem cr_setListAt {P : Program} {w : World} (hc : X.calm = true) (eP : X.prog = P) (ew : X.w = w) : CallR X (.type "set") (fun xs H Q => ∃ (a : Addr) (ks : List Wd), xs = [.ref a] ∧ SqL X.K H a ((ks.map mkS).map .str) ∧ ks.length ≤ 4000 ∧
    ∀ p l (ms : List Wd), H p = none → l.Perm (ms.map mkS) → ms.Nodup → ms.length ≤ 4000 → (∀ k, k ∈ ms ↔ k ∈ ks) → Q (.ref p) (upd H p (SetTxO P w p l))) := by
  subst eP
  subst ew
  intro pins s σ H vs us Q I r h
  obtain ⟨a, ks, rfl, hs, hl, q⟩ := h
  obtain ⟨its, rv, hl0, hz⟩ := I.list hs
  rw [Vals.ref1 r]
  have hx := strs_vals rv
  refine call_set_list (I.ok.hd hc) hl0.isList (by simpa using hx) (by rw [List.length_map]; exact Nat.lt_of_le_of_lt (Nat.succ_le_succ hl) (by decide)) fun s' D l k g o hS F hn hm => ?_
  have em : ((l.map (fun y : Str => y.cps.toList)).map mkS) = l := by
    rw [List.map_map, show (mkS ∘ fun y : Str => y.cps.toList) = id from funext fun y => mkS_of y, List.map_id]
  refine laid_new I k g o (Nat.le_refl _) (setTxO_new ⟨D, hS, F⟩) fun hn' => q _ l (l.map fun y : Str => y.cps.toList) hn' (by rw [em]) ?_ ?_ fun x => ?_
  · refine List.Pairwise.map _ (fun a b n e => n ?_) F.nd
    rw [← mkS_of a, ← mkS_of b, e]
  · rw [List.length_map]
    rw [List.length_map] at hn
    omega
  · constructor
    · intro h
      obtain ⟨y, hy, rfl⟩ := List.mem_map.mp h
      obtain ⟨z, hz, e⟩ := List.mem_map.mp ((hm y).mp hy)
      rw [← e, mkS_cps]
      exact hz
    · intro h
      have h2 := (hm (mkS x)).mpr (List.mem_map_of_mem h)
      have h3 := List.mem_map_of_mem (f := fun y : Str => y.cps.toList) h2
      rw [mkS_cps] at h3
      exact h3
end
end Vs

set_option Elab.async false
set_option linter.all false
set_option maxRecDepth 100000
set_option maxHeartbeats 4000000
namespace Vd
open PySem PySem.Spec PyProof.Rows L2 L2.Vx Vm
/-! ### values as data: taken apart, asked for their kind -/
theorem dt_same {H H' : Hp} {S : Addr → Prop} {v : V} {D : PyData} (h : Dt H S v D) (s : Same H H') : Dt H' S v D := h.mono (fun a o _ e => s a o e) fun _ _ x _ => x
theorem dtA_same {H H' : Hp} {S : Addr → Prop} {vs : List V} {ds : List PyData} (h : DtAll H S vs ds) (s : Same H H') : DtAll H' S vs ds := h.mono (fun a o _ e => s a o e) fun _ _ x _ => x
theorem dt_any {H : Hp} {S : Addr → Prop} {v : V} {D : PyData} (h : Dt H S v D) : Dt H (fun _ => True) v D := h.mono (fun _ _ _ e => e) fun _ _ _ _ => trivial
theorem dt_tup {H : Hp} {S : Addr → Prop} {v : V} {ds : List PyData} (h : Dt H S v (.tuple ds)) : ∃ a xs, v = .ref a ∧ H a = some (.tup xs) ∧ S a ∧ DtAll H S xs ds := by
  cases h with
  | flat e => cases v <;> exact absurd e (by intro z; cases z)
  | tup e s r => exact ⟨_, _, rfl, e, s, r⟩
theorem dt_str {H : Hp} {S : Addr → Prop} {v : V} {x : Str} (h : Dt H S v (.str x)) : v = .str x := by
  cases h with
  | flat e =>
    cases v with
    | str y => cases (show PyData.str x = .str y from e); rfl
    | _ => exact absurd e (by intro z; cases z)
theorem dt_int {H : Hp} {S : Addr → Prop} {v : V} {n : Int} (h : Dt H S v (.int n)) : v = .int n := by
  cases h with
  | flat e =>
    cases v with
    | int y => cases (show PyData.int n = .int y from e); rfl
    | _ => exact absurd e (by intro z; cases z)
theorem dtA_len {H : Hp} {S : Addr → Prop} : ∀ {vs : List V} {ds : List PyData}, DtAll H S vs ds → vs.length = ds.length
  | _, _, .nil => rfl
  | _, _, .cons _ r => congrArg (· + 1) (dtA_len r)
theorem dtA_at {H : Hp} {S : Addr → Prop} : ∀ {vs : List V} {ds : List PyData}, DtAll H S vs ds → ∀ {i : Nat} {v : V}, vs[i]? = some v → ∃ d, ds[i]? = some d ∧ Dt H S v d
  | _, _, .cons h _, 0, _, e => ⟨_, rfl, (Option.some.inj e) ▸ h⟩
  | _, _, .cons _ r, _ + 1, _, e => dtA_at r (i := _) e
theorem dtA_one {H : Hp} {S : Addr → Prop} {vs : List V} {d : PyData} {ds : List PyData} (h : DtAll H S vs (d :: ds)) : ∃ v r, vs = v :: r ∧ Dt H S v d ∧ DtAll H S r ds := by
  cases h with
  | cons a b => exact ⟨_, _, rfl, a, b⟩
theorem dtA_nil {H : Hp} {S : Addr → Prop} {vs : List V} (h : DtAll H S vs []) : vs = [] := by
  cases h
  rfl
/-- all of them texts -/
def strD : PyData → Bool
  | .str _ => true
  | _ => false
def wdOf : PyData → Wd
  | .str x => x.cps.toList
  | _ => []
theorem dtA_strs {H : Hp} {S : Addr → Prop} : ∀ {vs : List V} {ds : List PyData}, DtAll H S vs ds → ds.all strD = true → vs = ((ds.map wdOf).map mkS).map .str
  | _, _, .nil, _ => rfl
  | _, _, .cons (d := d) h r, e => by
    rw [List.all_cons, Bool.and_eq_true] at e
    rw [dtA_strs r e.2]
    cases d with
    | str x =>
      rw [dt_str h]
      show V.str x :: _ = V.str (mkS x.cps.toList) :: _
      rw [mkS_of]
    | _ => exact absurd e.1 (by intro z; cases z)
def tyD : PyData → String
  | .none => "NoneType"
  | .bool _ => "bool"
  | .int _ => "int"
  | .str _ => "str"
  | .list _ => "list"
  | .tuple _ => "tuple"
  | .dict _ => "dict"
theorem dt_ty {K : PySem.W.Frag} {H : Hp} {S : Addr → Prop} {v : V} {D : PyData} (h : Dt H S v D) : TyX K H v (.type (tyD D)) := by
  cases h with
  | flat e =>
    cases v with
    | non => cases (show D = .none from e); exact .base .non
    | bl b => cases (show D = .bool b from e); exact .base (.bl b)
    | int i => cases (show D = .int i from e); exact .base (.int i)
    | str x => cases (show D = .str x from e); exact .base (.str x)
    | byt b => exact (show False from e).elim
    | flt b => exact (show False from e).elim
    | ref b => exact (show False from e).elim
    | ty b => exact (show False from e).elim
  | lst e _ _ => exact .base (.lst e)
  | tup e _ _ => exact .base (.tup e)
  | dct e _ _ => exact .base (.dK e)
/-- isinstance of such a value, one of four types -/
def isD (n : String) (D : PyData) : Bool := (n == "int" && tyD D == "bool") || tyD D == n
theorem kitTab : ∀ a ∈ ["NoneType", "bool", "int", "str", "list", "tuple", "dict"], ∀ n ∈ ["int", "bool", "str", "tuple"], kitB a n = some ((n == "int" && a == "bool") || a == n) := by decide +kernel
theorem tyD_mem (D : PyData) : tyD D ∈ ["NoneType", "bool", "int", "str", "list", "tuple", "dict"] := by
  cases D <;> simp [tyD]
theorem kit_D {K : PySem.W.Frag} (D : PyData) {n : String} (hn : n = "int" ∨ n = "bool" ∨ n = "str" ∨ n = "tuple") : PySem.W.kitOne K (.type (tyD D)) (.type n) = some (isD n D) :=
  kit_ty (kitTab _ (tyD_mem D) n (by rcases hn with rfl | rfl | rfl | rfl <;> simp))
theorem isD_str (D : PyData) : isD "str" D = strD D := by
  cases D with
  | str x => exact (by decide +kernel : (("str" == "int" && "str" == "bool") || "str" == "str") = true)
  | none => exact (by decide +kernel : (("str" == "int" && "NoneType" == "bool") || "NoneType" == "str") = false)
  | bool b => exact (by decide +kernel : (("str" == "int" && "bool" == "bool") || "bool" == "str") = false)
  | int b => exact (by decide +kernel : (("str" == "int" && "int" == "bool") || "int" == "str") = false)
  | list b => exact (by decide +kernel : (("str" == "int" && "list" == "bool") || "list" == "str") = false)
  | tuple b => exact (by decide +kernel : (("str" == "int" && "tuple" == "bool") || "tuple" == "str") = false)
  | dict b => exact (by decide +kernel : (("str" == "int" && "dict" == "bool") || "dict" == "str") = false)
theorem isD_tup (D : PyData) : isD "tuple" D = true ↔ ∃ ds, D = .tuple ds := by
  cases D with
  | tuple ds => exact ⟨fun _ => ⟨ds, rfl⟩, fun _ => by show (("tuple" == "int" && "tuple" == "bool") || "tuple" == "tuple") = true; decide +kernel⟩
  | none => exact ⟨fun z => absurd z (by show ¬ (("tuple" == "int" && "NoneType" == "bool") || "NoneType" == "tuple") = true; decide +kernel), fun ⟨_, e⟩ => by cases e⟩
  | bool b => exact ⟨fun z => absurd z (by show ¬ (("tuple" == "int" && "bool" == "bool") || "bool" == "tuple") = true; decide +kernel), fun ⟨_, e⟩ => by cases e⟩
  | int b => exact ⟨fun z => absurd z (by show ¬ (("tuple" == "int" && "int" == "bool") || "int" == "tuple") = true; decide +kernel), fun ⟨_, e⟩ => by cases e⟩
  | str b => exact ⟨fun z => absurd z (by show ¬ (("tuple" == "int" && "str" == "bool") || "str" == "tuple") = true; decide +kernel), fun ⟨_, e⟩ => by cases e⟩
  | list b => exact ⟨fun z => absurd z (by show ¬ (("tuple" == "int" && "list" == "bool") || "list" == "tuple") = true; decide +kernel), fun ⟨_, e⟩ => by cases e⟩
  | dict b => exact ⟨fun z => absurd z (by show ¬ (("tuple" == "int" && "dict" == "bool") || "dict" == "tuple") = true; decide +kernel), fun ⟨_, e⟩ => by cases e⟩
def isInt : PyData → Bool
  | .int _ => true
  | _ => false
/-! ### judges, as data -/
def textD (sg : Wd) : PyData → Bool
  | .str x => x.cps.toList.all fun c => decide (c ∈ sg)
  | _ => false
def wordDB (sg : Wd) (n : Int) (d : PyData) : Bool := textD sg d && decide (((wdOf d).length : Int) = n)
/-- each less than the next -/
def riseB {α : Type} (lt : α → α → Bool) (xs : List α) : Bool := (xs.zip (xs.drop 1)).all fun p => lt p.1 p.2
def ltW (x y : Wd) : Bool := decide (x < y)
def wordsB (sg : Wd) (n : Int) : PyData → Bool
  | .tuple ds => ds.all (wordDB sg n) && riseB ltW (ds.map wdOf)
  | _ => false
def ltP (x y : Wd) : Bool := decide (x.length < y.length) || (decide (x.length = y.length) && decide (x < y))
def shorterB (sg : Wd) (k : Int) : PyData → Bool
  | .tuple ds => ds.all (textD sg) && (ds.all (fun d => decide (((wdOf d).length : Int) < k)) && riseB ltP (ds.map wdOf))
  | _ => false
def judgeB (sg : Wd) : PyData → Bool
  | .tuple [.int k, s, f, l, p] => decide (1 ≤ k) && (shorterB sg k s && (wordsB sg (k - 1) f && (wordsB sg (k - 1) l && wordsB sg k p)))
  | _ => false
theorem text_str {sg : Wd} {d : PyData} (h : textD sg d = true) : strD d = true := by
  cases d with
  | str x => rfl
  | _ => exact absurd h (by intro z; cases z)
mutual
def wideD (n : Nat) : PyData → Prop
  | .tuple ds => ds.length ≤ n ∧ wideDs n ds
  | .list ds => ds.length ≤ n ∧ wideDs n ds
  | .str x => x.length ≤ n
  | _ => True
def wideDs (n : Nat) : List PyData → Prop
  | [] => True
  | d :: r => wideD n d ∧ wideDs n r
end
theorem wide_mem {n : Nat} : ∀ {ds : List PyData}, wideDs n ds → ∀ d ∈ ds, wideD n d
  | d :: r, h, e, he => by
    rcases List.mem_cons.mp he with rfl | he
    · exact h.1
    · exact wide_mem h.2 e he
end Vd

set_option Elab.async false
set_option linter.all false
set_option maxRecDepth 100000
set_option maxHeartbeats 4000000
namespace L2
open PySem PySem.Spec PyProof.Rows
/-! ### o.f as one of several targets -/
section
variable {X : Cx} {o : Expr} {f : Str} {pos : Pos} {to : TE}
def gFld (K : PySem.W.Frag) (to : TE) (f : Str) : TG := fun v σ H Q => to σ H fun x H1 => ∃ a C dx fs, x = .ref a ∧ H1 a = some (.ins C dx fs) ∧ Cls K C ∧ NoAttr K C f ∧ fs.length < 1000 ∧ Q σ (upd H1 a (.ins C dx (putF f v fs)))
theorem pg_fld (ho : PE X o to)
    (ha : ∀ v, assign (.Attribute o f pos) X.env v = (do
      let ov ← holding [v] (eval o X.env)
      standAt pos.atName
      holding [v, ov] (setAttr ov f v)
      release [v, ov] []) := by intro _; rfl) : PG X (.Attribute o f pos) (gFld X.K to f) := by
  refine ⟨fun pins s σ H v u Q I r h => ?_⟩
  rw [ha]
  refine wpAny_bind (wpAny_holding (thn (ho.run pins s σ H _ I h) fun ov s1 ⟨x, H1, I1, r1, a, C, dx, fs, ex, ea, c, n, l, q1⟩ => ?_))
  subst ex
  obtain rfl : ov = Value.ref a := r1
  refine wpAny_bind (wpAny_standAt (wpAny_bind (wpAny_holding (setattr_ok I1 ea c n l r fun s3 I3 => ?_))))
  exact wpAny_release ⟨σ, _, I3, q1⟩
end
end L2

set_option Elab.async false
set_option linter.all false
set_option maxRecDepth 100000
set_option maxHeartbeats 1000000
namespace Vf
open PySem PySem.Spec PyProof.Rows L2 L2.Vx Vs Vm Vd
abbrev clsL : Stmt := top 44
abbrev sLInit : Stmt := inClass clsL 0
/-! ### languages of machines that are some: made, with the parts of their least machines -/
theorem if_fl {A B : Prop} {c : Bool} (e : c = false) (h : B) : if c = true then A else B := by
  rw [e]
  exact h
def NatsAt (H : Hp) (v : V) (ns : List Nat) : Prop := ∃ a, v = .ref a ∧ H a = some (.tup (ns.map nI))
def MRowsAt (H : Hp) (v : V) (rows : List (List Nat)) : Prop := ∃ (a : Addr) (bs : List V), v = .ref a ∧ H a = some (.tup bs) ∧ bs.length = rows.length ∧ ∀ (i : Nat) (b : V) (r : List Nat), bs[i]? = some b → rows[i]? = some r → NatsAt H b r
theorem NatsAt.same {H H' : Hp} {v : V} {ns : List Nat} (h : NatsAt H v ns) (s : Same H H') : NatsAt H' v ns := h.imp fun a z => ⟨z.1, s _ _ z.2⟩
theorem MRowsAt.same {H H' : Hp} {v : V} {rows : List (List Nat)} (h : MRowsAt H v rows) (s : Same H H') : MRowsAt H' v rows := by
  obtain ⟨a, bs, h1, h2, h3, h4⟩ := h
  exact ⟨a, bs, h1, s _ _ h2, h3, fun i b r e1 e2 => (h4 i b r e1 e2).same s⟩
theorem NatsAt.but {H H' : Hp} {p C dx : Addr} {fs : List (Str × V)} {v : V} {ns : List Nat} (h : NatsAt H v ns) (hp : H p = some (.ins C dx fs)) (u : ∀ b o, b ≠ p → H b = some o → H' b = some o) : NatsAt H' v ns := by
  obtain ⟨a, h1, h2⟩ := h
  exact ⟨a, h1, u _ _ (ne_of h2 hp (by intro z; cases z)) h2⟩
theorem MRowsAt.but {H H' : Hp} {p C dx : Addr} {fs : List (Str × V)} {v : V} {rows : List (List Nat)} (h : MRowsAt H v rows) (hp : H p = some (.ins C dx fs)) (u : ∀ b o, b ≠ p → H b = some o → H' b = some o) : MRowsAt H' v rows := by
  obtain ⟨a, bs, h1, h2, h3, h4⟩ := h
  exact ⟨a, bs, h1, u _ _ (ne_of h2 hp (by intro z; cases z)) h2, h3, fun i b r e1 e2 => (h4 i b r e1 e2).but hp u⟩
theorem NatsAt.T {K : PySem.W.Frag} {H : Hp} {v : V} {ns : List Nat} (h : NatsAt H v ns) : TupN K H v ns := h.imp fun a z => ⟨z.1, SqT.of z.2⟩
theorem MRowsAt.R {K : PySem.W.Frag} {H : Hp} {v : V} {rows : List (List Nat)} (h : MRowsAt H v rows) : RowsAt K H v rows := by
  obtain ⟨a, bs, h1, h2, h3, h4⟩ := h
  exact ⟨a, bs, h1, SqT.of h2, h3, fun i b r e1 e2 => (h4 i b r e1 e2).T⟩
theorem NatsAt.dt {H : Hp} {v : V} {ns : List Nat} (h : NatsAt H v ns) : Dt H (fun _ => True) v (natsT ns) := by
  obtain ⟨a, rfl, e⟩ := h
  exact .tup e trivial (dtA_nats ns)
theorem mrows_all {H : Hp} : ∀ (bs : List V) (rows : List (List Nat)), bs.length = rows.length → (∀ (i : Nat) (b : V) (r : List Nat), bs[i]? = some b → rows[i]? = some r → NatsAt H b r) → DtAll H (fun _ => True) bs (rows.map natsT)
  | [], [], _, _ => .nil
  | [], _ :: _, h, _ => nomatch h
  | _ :: _, [], h, _ => nomatch h
  | b :: bs, r :: rows, h, e => .cons (e 0 b r rfl rfl).dt (mrows_all bs rows (Nat.succ.inj h) fun i b' r' h1 h2 => e (i + 1) b' r' (by simpa using h1) (by simpa using h2))
theorem MRowsAt.dt {H : Hp} {v : V} {rows : List (List Nat)} (h : MRowsAt H v rows) : Dt H (fun _ => True) v (rowsT rows) := by
  obtain ⟨a, bs, rfl, e, h3, h4⟩ := h
  exact .tup e trivial (mrows_all bs rows h3 h4)
theorem nats_vals {H : Hp} {S : Addr → Prop} : ∀ {xs : List V} {ns : List Nat}, DtAll H S xs (ns.map fun n => .int (n : Nat)) → xs = ns.map nI
  | [], [], .nil => rfl
  | _ :: _, n :: ns, .cons h r => by
    rw [Vd.dt_int h, nats_vals r]
    rfl
theorem nats_of {H : Hp} {S : Addr → Prop} {v : V} {ns : List Nat} (h : Dt H S v (natsT ns)) : NatsAt H v ns := by
  obtain ⟨a, xs, rfl, e, _, r⟩ := Vd.dt_tup h
  exact ⟨a, rfl, by rw [e, nats_vals r]⟩
theorem mrows_of {H : Hp} {S : Addr → Prop} {v : V} {rows : List (List Nat)} (h : Dt H S v (rowsT rows)) : MRowsAt H v rows := by
  obtain ⟨a, xs, rfl, e, _, r⟩ := Vd.dt_tup h
  refine ⟨a, xs, rfl, e, by rw [Vd.dtA_len r, List.length_map], fun i b ro h1 h2 => ?_⟩
  obtain ⟨d, hd, dd⟩ := Vd.dtA_at r h1
  rw [List.getElem?_map, h2] at hd
  cases hd
  exact nats_of dd
theorem state_is {m n : Nat} (h : n < m) : isStateD m (.int (n : Nat)) = true := by
  show (decide (0 ≤ (n : Int)) && decide ((n : Int) < (m : Int))) = true
  rw [decide_eq_true (by omega), decide_eq_true (by omega)]
  rfl
theorem rows_are {rows : List (List Nat)} {k : Nat} (sq : Square rows k) : isRowsD k (rowsT rows) = true := by
  show (decide (0 < (rows.map natsT).length) && (rows.map natsT).all (isRowD k (rows.map natsT).length)) = true
  rw [List.length_map, decide_eq_true sq.some, Bool.true_and, List.all_eq_true]
  intro d hd
  obtain ⟨r, hr, rfl⟩ := List.mem_map.mp hd
  show (decide ((r.map fun n => PyData.int (n : Nat)).length = k) && (r.map fun n => PyData.int (n : Nat)).all (isStateD rows.length)) = true
  rw [List.length_map, decide_eq_true (sq.wide r hr), Bool.true_and, List.all_eq_true]
  intro x hx
  obtain ⟨n, hn, rfl⟩ := List.mem_map.mp hx
  exact state_is (sq.inn r hr n hn)
theorem ends_are {ends : List Nat} {m : Nat} (h : ∀ x ∈ ends, x < m) (up : ascN ends = true) : isEndsD m (natsT ends) = true := by
  show ((ends.map fun n => PyData.int (n : Nat)).all (isStateD m) && ascN ((ends.map fun n => PyData.int (n : Nat)).map natD)) = true
  have e : (ends.map fun n => PyData.int (n : Nat)).map natD = ends := by
    rw [List.map_map]
    exact (List.map_congr_left fun n _ => rfl).trans (List.map_id ends)
  rw [e, up, Bool.and_true, List.all_eq_true]
  intro x hx
  obtain ⟨n, hn, rfl⟩ := List.mem_map.mp hx
  exact state_is (h n hn)
/-- a language over a at p, with these rows and ends -/
def LangL (C : Addr) (H : Hp) (p : Addr) (a : Str) (rows : List (List Nat)) (ends : List Nat) : Prop := ∃ (dx : Addr) (vr ve : V), H p = some (.ins C dx [("letters", .str a), ("rows", vr), ("ends", ve)]) ∧ MRowsAt H vr rows ∧ NatsAt H ve ends
theorem LangL.same {C : Addr} {H H' : Hp} {p : Addr} {a : Str} {rows : List (List Nat)} {ends : List Nat} (h : LangL C H p a rows ends) (s : Same H H') : LangL C H' p a rows ends := by
  obtain ⟨dx, vr, ve, h1, h2, h3⟩ := h
  exact ⟨dx, vr, ve, s _ _ h1, h2.same s, h3.same s⟩
def spLMake (C : Addr) : Sp := fun vs H Q _ => ∃ (p dx : Addr) (a : Str) (v1 v2 : V) (rows : List (List Nat)) (ends : List Nat), vs = [.ref p, .str a, v1, v2] ∧ H p = some (.ins C dx []) ∧ letB a = true ∧ (∀ c ∈ cp a, c < 128) ∧ MRowsAt H v1 rows ∧ NatsAt H v2 ends ∧
  Square rows a.length ∧ (∀ x ∈ ends, x < rows.length) ∧ ends.length ≤ 1000 ∧ ascN ends = true ∧
  ∀ (rows' : List (List Nat)) (ends' : List Nat) H', LangL C H' p a rows' ends' → Least rows' a.length ends' → (∀ w : List Nat, (∀ i ∈ w, i < a.length) → (led rows' w 0 ∈ ends' ↔ led rows w 0 ∈ ends)) → (∀ b o, b ≠ p → H b = some o → H' b = some o) → Q .non H'
structure TxtLg (K : PySem.W.Frag) (mg : Str → Option Value) (C : Addr) : Prop where
  cl : Cls K C
  nL : NoAttr K C "letters"
  nR : NoAttr K C "rows"
  nE : NoAttr K C "ends"
  len : mg "len" = none
section
variable {P : Program} {w : World} {K : PySem.W.Frag} {mg : Str → Option Value} {base : Heap} {C : Addr}
theorem scLInit : FnScope ["self", "letters", "rows", "ends"] ["self", "letters", "rows", "ends"] (defScope sLInit) := ⟨rfl, rfl, rfl, by decide +kernel, rfl, by decide +kernel, by decide +kernel⟩
theorem ok_lmake {f fL fR fE fM : Addr} {fd fdL fdR fdE fdM : FuncData} (F : Fun K "__init__" "Language.__init__" sLInit f fd) (T : TxtLg K mg C)
    (GL : FnOk P w K mg base CX0 2 fL fdL ["thing"] (spLet K letB)) (bL : Binds K fdL ["thing"] []) (kL : PySem.W.keepIn K (.ref fL) = true) (mL : mg "is_letters" = some (.ref fL))
    (GR : FnOk P w K mg base CX0 4 fR fdR ["thing", "width"] spRows) (bR : Binds K fdR ["thing", "width"] []) (kR : PySem.W.keepIn K (.ref fR) = true) (mR : mg "is_rows" = some (.ref fR))
    (GE : FnOk P w K mg base CX0 3 fE fdE ["thing", "many"] spEnds) (bE : Binds K fdE ["thing", "many"] []) (kE : PySem.W.keepIn K (.ref fE) = true) (mE : mg "is_ends" = some (.ref fE))
    (GM : FnOk P w K mg base CX0 3 fM fdM ["rows", "ends"] (spLeastL K)) (bM : Binds K fdM ["rows", "ends"] []) (kM : PySem.W.keepIn K (.ref fM) = true) (mM : mg "least_machine" = some (.ref fM)) :
    FnOk P w K mg base CX0 5 f fd ["self", "letters", "rows", "ends"] (spLMake C) := by
  refine F.ok scLInit (fun vs H Q E h => ?_) (fun cdv A outer s H vs Q E hr h => ?_)
  · obtain ⟨p, dx, a, v1, v2, rows, ends, rfl, _⟩ := h
    rfl
  obtain ⟨p, dx, a, v1, v2, rows, ends, rfl, hp, hlet, h8, hR, hE, hSq, hEl, hEn, hUp, q⟩ := h
  have hr2 : Room 2 _ := hr.mono (by decide)
  have hr3 : Room 3 _ := hr.mono (by decide)
  have hr4 : Room 4 _ := hr.mono (by decide)
  refine ⟨_, (pss_cons (ps_if (pt_not (pt_val (pe_call GL hr2 rfl mL kL bL .nil pass0 (pa_cons (pv 1) pa_nil)))) (pss_one ps_never) pss_nil)
    (pss_cons (ps_if (pt_not (pt_val (pe_call GR hr4 rfl mR kR bR .nil pass0 (pa_cons (pv 2) (pa_cons (pe_callB call_len_str (by rfl) T.len PySem.boot_len (pa_cons (pv 1) pa_nil)) pa_nil))))) (pss_one ps_never) pss_nil)
    (pss_cons (ps_if (pt_not (pt_val (pe_call GE hr3 rfl mE kE bE .nil pass0 (pa_cons (pv 3) (pa_cons (pe_callB call_len_seq (by rfl) T.len PySem.boot_len (pa_cons (pv 2) pa_nil)) pa_nil))))) (pss_one ps_never) pss_nil)
    (pss_cons (ps_fld (pv 0) (pv 1) rfl)
    (pss_one (ps_asg (pe_call GM hr3 rfl mM kM bM .nil pass0 (pa_cons (pv 2) (pa_cons (pv 3) pa_nil))) (pg_tup rfl (pgs_cons (pg_fld (pv 0)) (pgs_cons (pg_fld (pv 0)) pgs_nil))))))))), ?_⟩
  have ha4 : a.length ≤ 4 := by
    have z := hlet
    unfold letB at z
    rw [Bool.and_eq_true, Bool.and_eq_true, decide_eq_true_iff, decide_eq_true_iff] at z
    exact z.1.2
  have ha : a.length ≤ 100000 := by omega
  have hal : (cp a).length = a.length := by rw [Array.length_toList]; rfl
  refine ⟨_, rfl, _, some a, rfl, ⟨rfl, ha, h8⟩, fun H1 s1 => ⟨_, rfl, ?_⟩⟩
  show if (!letB a) = true then _ else _
  rw [hlet]
  refine if_fl rfl ?_
  refine ⟨_, rfl, _, rfl, _, rfl, Nat.le_trans ha (by decide), v1, rowsT rows, _, a.length, rfl, ha, fun ds e => ?_, (hR.same s1).dt, fun H2 s2 => ⟨_, rfl, ?_⟩⟩
  · cases e
    rw [List.length_map]
    have := hSq.few
    omega
  rw [rows_are hSq]
  refine if_fl rfl ?_
  have s12 := s1.trans s2
  have hR2 := hR.same s12
  obtain ⟨ra, rbs, erv, hra, hrl, hrr⟩ := id hR2
  subst erv
  refine ⟨_, rfl, _, rfl, ra, rbs, rfl, .inr (SqT.of hra), v2, natsT ends, _, rows.length, by rw [hrl]; rfl, fun ds e => ?_, (hE.same s12).dt, fun H3 s3 => ⟨_, rfl, ?_⟩⟩
  · cases e
    rw [List.length_map]
    omega
  rw [ends_are hEl hUp]
  refine if_fl rfl ?_
  have s13 := s12.trans s3
  have hE3' := hE.same s13
  have hp3 := s13 _ _ hp
  refine ⟨_, rfl, _, rfl, p, C, dx, _, rfl, hp3, T.cl, T.nL, (by show 0 < 1000; decide), ?_⟩
  have u4 : ∀ b o, b ≠ p → H3 b = some o → (upd H3 p (.ins C dx (putF "letters" (.str a) []))) b = some o := fun b o n e => by rw [upd_ne n]; exact e
  have hR3 := (hR2.same s3).but hp3 u4
  have hE3 := hE3'.but hp3 u4
  have hp4 : (upd H3 p (.ins C dx (putF "letters" (.str a) []))) p = some (.ins C dx [("letters", .str a)]) := upd_same
  generalize upd H3 p (.ins C dx (putF "letters" (.str a) [])) = H4 at u4 hR3 hE3 hp4 ⊢
  refine ⟨_, rfl, _, rfl, _, v2, rows, ends, a.length, rfl, hR3.R, hE3.T, hSq, hEl, fun t ta tb rows' ends' H5 s5 ht et L1 L2 dr de => ?_⟩
  have hp5 := s5 _ _ hp4
  refine ⟨t, _, rfl, SqT.of et, rfl, _, _, rfl, _, rfl, p, C, dx, _, rfl, hp5, T.cl, T.nR, (by show 1 < 1000; decide), _, _, rfl, _, rfl, p, C, dx, _, rfl, upd_same, T.cl, T.nE, (by show 2 < 1000; decide), rfl, ?_⟩
  have u6 : ∀ b o, b ≠ p → H5 b = some o → (upd (upd H5 p (.ins C dx (putF "rows" ta [("letters", .str a)]))) p (.ins C dx (putF "ends" tb (putF "rows" ta [("letters", .str a)])))) b = some o := fun b o n e => by rw [upd_ne n, upd_ne n]; exact e
  exact q rows' ends' _ ⟨dx, ta, tb, upd_same, (mrows_of dr).but hp5 u6, (nats_of de).but hp5 u6⟩ L1 L2 fun b o n e => u6 b o n (s5 _ _ (u4 b o n (s13 _ _ e)))
end
end Vf

set_option Elab.async false
set_option linter.all false
set_option maxRecDepth 100000
set_option maxHeartbeats 1000000
namespace Vf
open PySem PySem.Spec PyProof.Rows L2 L2.Vx
/-! ### machines, as objects; machines mixed and blown -/
structure Mach (A : List (List Nat)) (k : Nat) (e : List Nat) : Prop where
  sq : Square A k
  lt : ∀ x ∈ e, x < A.length
  up : e.Pairwise (· < ·)
theorem Mach.nodup {A : List (List Nat)} {k : Nat} {e : List Nat} (M : Mach A k e) : e.Nodup := M.up.imp fun h => Nat.ne_of_lt h
theorem mix_len (A : List (List Nat)) (o : List Nat) : (renum A o).length = o.length := List.length_map _
section
variable {A : List (List Nat)} {k : Nat} {eA o eB : List Nat}
theorem idx_of {o : List Nat} (nd : o.Nodup) {i : Nat} (hi : i < o.length) : o.idxOf (o.getD i 0) = i := by
  have e : o.getD i 0 = o[i] := by rw [List.getD_eq_getElem?_getD, List.getElem?_eq_getElem hi]; rfl
  rw [e]
  have hm : o[i] ∈ o := List.getElem_mem hi
  have hl := List.idxOf_lt_length_of_mem hm
  exact (List.getElem_inj nd).mp (List.getElem_idxOf hl)
theorem mix_stands (M : Mach A k eA) (p : o.Perm (List.range A.length)) (z : o[0]? = some 0) (hB : eB.Perm (eA.map fun x => o.idxOf x)) : Stands A (renum A o) k eA eB (fun i => o.getD i 0) := by
  have hl : o.length = A.length := by rw [p.length_eq, List.length_range]
  have nd : o.Nodup := p.nodup_iff.mpr List.nodup_range
  have mem : ∀ {x}, x < A.length → x ∈ o := fun h => p.mem_iff.mpr (List.mem_range.mpr h)
  refine ⟨?_, fun i hi => ?_, fun i a hi ha => ?_, fun i hi => ?_⟩
  · show o.getD 0 0 = 0
    rw [List.getD_eq_getElem?_getD, z]; rfl
  · rw [mix_len] at hi
    exact List.mem_range.mp (p.mem_iff.mp (getD_mem hi))
  · rw [mix_len] at hi
    have hs : o.getD i 0 < A.length := List.mem_range.mp (p.mem_iff.mp (getD_mem hi))
    have e : nextOf (renum A o) a i = o.idxOf (nextOf A a (o.getD i 0)) := map_next (renum_row hi) (by rw [width M.sq hs]; exact ha)
    show o.getD (nextOf (renum A o) a i) 0 = _
    rw [e, idx_get (mem (next_lt M.sq ha hs))]
  · rw [mix_len] at hi
    rw [hB.mem_iff, List.mem_map]
    constructor
    · rintro ⟨x, hx, rfl⟩
      show o.getD (o.idxOf x) 0 ∈ eA
      rw [idx_get (mem (M.lt x hx))]
      exact hx
    · intro h
      exact ⟨_, h, idx_of nd hi⟩
theorem mix_mach (M : Mach A k eA) (p : o.Perm (List.range A.length)) (hB : eB.Perm (eA.map fun x => o.idxOf x)) (up : eB.Pairwise (· ≤ ·)) : Mach (renum A o) k eB := by
  have hl : o.length = A.length := by rw [p.length_eq, List.length_range]
  have nd : o.Nodup := p.nodup_iff.mpr List.nodup_range
  have mem : ∀ {x}, x < A.length → x ∈ o := fun h => p.mem_iff.mpr (List.mem_range.mpr h)
  have s0 := M.sq.some
  refine ⟨⟨by rw [mix_len]; omega, by rw [mix_len, hl]; exact M.sq.few, fun r hr => ?_, M.sq.thin, fun r hr t ht => ?_⟩, fun x hx => ?_, ?_⟩
  · obtain ⟨s, hs, rfl⟩ := List.mem_map.mp hr
    rw [List.length_map]
    exact width M.sq (List.mem_range.mp (p.mem_iff.mp hs))
  · obtain ⟨s, hs, rfl⟩ := List.mem_map.mp hr
    obtain ⟨u, hu, rfl⟩ := List.mem_map.mp ht
    rw [mix_len]
    exact List.idxOf_lt_length_of_mem (mem (rowOf_mem M.sq.inn u hu))
  · obtain ⟨u, hu, rfl⟩ := List.mem_map.mp (hB.mem_iff.mp hx)
    rw [mix_len]
    exact List.idxOf_lt_length_of_mem (mem (M.lt u hu))
  · have nB : eB.Nodup := by
      rw [hB.nodup_iff]
      refine List.pairwise_map.mpr (List.Pairwise.imp_of_mem (fun {x y} hx hy ne e => ne ?_) M.nodup)
      rw [← idx_get (mem (M.lt x hx)), ← idx_get (mem (M.lt y hy)), e]
    exact (List.pairwise_and_iff.mpr ⟨up, nB⟩).imp fun h => Nat.lt_of_le_of_ne h.1 h.2
/-- a machine whose states stand for others, each at least once -/
structure Blown (A : List (List Nat)) (own : List Nat) (B : List (List Nat)) : Prop where
  zero : own[0]? = some 0
  lt : ∀ x ∈ own, x < A.length
  len : B.length = own.length
  row : ∀ i, i < own.length → (rowOf B i).map (fun t => own.getD t 0) = rowOf A (own.getD i 0) ∧ ∀ t ∈ rowOf B i, t < own.length
theorem endsAt_mem {i : Nat} (hi : i < o.length) : i ∈ endsAt o eA ↔ o.getD i 0 ∈ eA := mem_endsAt hi
theorem endsAt_up (o e : List Nat) : (endsAt o e).Pairwise (· < ·) := List.Pairwise.filter _ List.pairwise_lt_range
theorem endsAt_lt {o e : List Nat} : ∀ x ∈ endsAt o e, x < o.length := fun x hx => List.mem_range.mp (List.mem_filter.mp hx).1
theorem blown_sq {own : List Nat} {B : List (List Nat)} (sq : Square A k) (W : Blown A own B) (few : own.length ≤ 1000) : Square B k := by
  have z := (List.getElem?_eq_some_iff.mp W.zero).1
  have at_ : ∀ r ∈ B, ∃ i, i < own.length ∧ rowOf B i = r := fun r hr => by
    obtain ⟨i, hi, e⟩ := List.getElem_of_mem hr
    have e2 := rowOf_at hi
    rw [List.getElem?_eq_getElem hi, e] at e2
    exact ⟨i, by rw [← W.len]; exact hi, (Option.some.inj e2).symm⟩
  refine ⟨by rw [W.len]; omega, by rw [W.len]; exact few, fun r hr => ?_, sq.thin, fun r hr t ht => ?_⟩
  · obtain ⟨i, hi, rfl⟩ := at_ r hr
    have e := congrArg List.length (W.row i hi).1
    rw [List.length_map, width sq (W.lt _ (getD_mem hi))] at e
    exact e
  · obtain ⟨i, hi, rfl⟩ := at_ r hr
    rw [W.len]
    exact (W.row i hi).2 t ht
theorem blown_stands {own : List Nat} {B : List (List Nat)} (sq : Square A k) (W : Blown A own B) (few : own.length ≤ 1000) : Stands A B k eA (endsAt own eA) (fun i => own.getD i 0) := by
  have sB := blown_sq sq W few
  refine ⟨?_, fun i hi => ?_, fun i a hi ha => ?_, fun i hi => ?_⟩
  · show own.getD 0 0 = 0
    rw [List.getD_eq_getElem?_getD, W.zero]; rfl
  · rw [W.len] at hi
    exact W.lt _ (getD_mem hi)
  · have w := width sB hi
    rw [W.len] at hi
    exact (map_next (W.row i hi).1.symm (by rw [w]; exact ha)).symm
  · rw [W.len] at hi
    exact mem_endsAt hi
theorem blown_mach {own : List Nat} {B : List (List Nat)} (sq : Square A k) (W : Blown A own B) (few : own.length ≤ 1000) : Mach B k (endsAt own eA) :=
  ⟨blown_sq sq W few, fun x hx => by rw [W.len]; exact endsAt_lt x hx, endsAt_up _ _⟩
end
/-! ### objects -/
def TK (H H' : Hp) : Prop := ∀ b ys, H b = some (.tup ys) → H' b = some (.tup ys)
theorem TK.refl (H : Hp) : TK H H := fun _ _ h => h
theorem TK.trans {H H1 H2 : Hp} (a : TK H H1) (b : TK H1 H2) : TK H H2 := fun c ys h => b c ys (a c ys h)
theorem tk_same {H H' : Hp} (s : Same H H') : TK H H' := fun b ys e => s b _ e
theorem tk_new {H : Hp} {p : Addr} (h : H p = none) (o : HO) : TK H (upd H p o) := tk_same (same_new h o)
theorem tk_put {H : Hp} {D : Addr} {l : List V} (e : H D = some (.lst l)) (o : HO) : TK H (upd H D o) := fun b ys h => by
  rw [upd_ne (fun z => by rw [z, e] at h; exact nomatch (Option.some.inj h))]
  exact h
theorem tk_dT {H : Hp} {D : Addr} {l : List (List Key × V)} (e : H D = some (.dT l)) (o : HO) : TK H (upd H D o) := fun b ys h => by
  rw [upd_ne (fun z => by rw [z, e] at h; exact nomatch (Option.some.inj h))]
  exact h
theorem tk_keeps {H H' : Hp} {d g : Addr} (hD : DeckAt H d g) (k : Keeps d g H H') : TK H H' := fun b ys h => by
  obtain ⟨ns, m, n, h1, h2, _⟩ := hD
  exact k b _ (fun z => by rw [z, h1] at h; exact nomatch (Option.some.inj h)) (fun z => by rw [z, h2] at h; exact nomatch (Option.some.inj h)) h
theorem NatsAt.tk {H H' : Hp} {v : V} {ns : List Nat} (h : NatsAt H v ns) (s : TK H H') : NatsAt H' v ns := h.imp fun a z => ⟨z.1, s _ _ z.2⟩
theorem MRowsAt.tk {H H' : Hp} {v : V} {rows : List (List Nat)} (h : MRowsAt H v rows) (s : TK H H') : MRowsAt H' v rows := by
  obtain ⟨a, bs, h1, h2, h3, h4⟩ := h
  exact ⟨a, bs, h1, s _ _ h2, h3, fun i b r e1 e2 => (h4 i b r e1 e2).tk s⟩
def MachAt (H : Hp) (v : V) (A : List (List Nat)) (e : List Nat) : Prop := ∃ (t : Addr) (vr ve : V), v = .ref t ∧ H t = some (.tup [vr, ve]) ∧ MRowsAt H vr A ∧ NatsAt H ve e
theorem MachAt.tk {H H' : Hp} {v : V} {A : List (List Nat)} {e : List Nat} (h : MachAt H v A e) (s : TK H H') : MachAt H' v A e := by
  obtain ⟨t, vr, ve, h1, h2, h3, h4⟩ := h
  exact ⟨t, vr, ve, h1, s _ _ h2, h3.tk s, h4.tk s⟩
/-- a list of tuples of numbers, that grows -/
def NRows (H : Hp) (bs : List V) (rows : List (List Nat)) : Prop := bs.length = rows.length ∧ ∀ (i : Nat) (b : V) (r : List Nat), bs[i]? = some b → rows[i]? = some r → NatsAt H b r
theorem NRows.nil (H : Hp) : NRows H [] [] := ⟨rfl, fun i b r e => by simp at e⟩
theorem NRows.tk {H H' : Hp} {bs : List V} {rows : List (List Nat)} (h : NRows H bs rows) (s : TK H H') : NRows H' bs rows := ⟨h.1, fun i b r e1 e2 => (h.2 i b r e1 e2).tk s⟩
theorem NRows.snoc {H : Hp} {bs : List V} {rows : List (List Nat)} {v : V} {r : List Nat} (h : NRows H bs rows) (hv : NatsAt H v r) : NRows H (bs ++ [v]) (rows ++ [r]) := by
  refine ⟨by rw [List.length_append, List.length_append, h.1] <;> rfl, fun i b r' e1 e2 => ?_⟩
  rcases Nat.lt_or_ge i rows.length with c | c
  · rw [List.getElem?_append_left (by rw [h.1]; exact c)] at e1
    rw [List.getElem?_append_left c] at e2
    exact h.2 i b r' e1 e2
  · have hi : i = rows.length := by
      have := (List.getElem?_eq_some_iff.mp e2).1
      rw [List.length_append] at this
      have : i < rows.length + 1 := this
      omega
    rw [List.getElem?_append_right (by rw [h.1]; exact c), h.1, hi, Nat.sub_self] at e1
    rw [List.getElem?_append_right c, hi, Nat.sub_self] at e2
    obtain rfl := Option.some.inj e1
    obtain rfl := Option.some.inj e2
    exact hv
theorem NRows.tup {H : Hp} {a : Addr} {bs : List V} {rows : List (List Nat)} (h : NRows H bs rows) (e : H a = some (.tup bs)) : MRowsAt H (.ref a) rows := ⟨a, bs, rfl, e, h.1, h.2⟩
theorem MRowsAt.at_ {H : Hp} {v : V} {A : List (List Nat)} (h : MRowsAt H v A) : ∃ (a : Addr) (bs : List V), v = .ref a ∧ H a = some (.tup bs) ∧ NRows H bs A := by
  obtain ⟨a, bs, h1, h2, h3, h4⟩ := h
  exact ⟨a, bs, h1, h2, h3, h4⟩
theorem NRows.get {H : Hp} {bs : List V} {A : List (List Nat)} (h : NRows H bs A) {i : Nat} (hi : i < A.length) : ∃ b : Addr, bs[i]? = some (.ref b) ∧ H b = some (.tup ((rowOf A i).map nI)) := by
  have hb : i < bs.length := by rw [h.1]; exact hi
  obtain ⟨b, e1, e2⟩ := h.2 i _ _ (List.getElem?_eq_getElem hb) (rowOf_at hi)
  exact ⟨b, by rw [List.getElem?_eq_getElem hb, e1], e2⟩
end Vf

set_option Elab.async false
set_option linter.all false
set_option maxRecDepth 100000
set_option maxHeartbeats 1000000
/-! ### dicts of pairs of numbers: which pairs are there -/
namespace Vs
open PySem PySem.Spec PyProof.Rows L2
abbrev keyT (p : Nat × Nat) : List Key := [Sum.inl (p.1 : Int), Sum.inl (p.2 : Int)]
def entT (T : List (Nat × Nat)) : List (List Key × V) := T.map fun p => (keyT p, V.bl true)
def addT (T : List (Nat × Nat)) (p : Nat × Nat) : List (Nat × Nat) := if p ∈ T then T else T ++ [p]
theorem keyT_iff {p q : Nat × Nat} : keyT p = keyT q ↔ p = q := by
  refine ⟨fun h => ?_, fun h => by rw [h]⟩
  obtain ⟨a, b⟩ := p
  obtain ⟨c, d⟩ := q
  have e := List.cons.inj h
  have e1 : (a : Int) = (c : Int) := Sum.inl.inj e.1
  have e2 : (b : Int) = (d : Int) := Sum.inl.inj (List.cons.inj e.2).1
  rw [show a = c by omega, show b = d by omega]
theorem entT_length (T : List (Nat × Nat)) : (entT T).length = T.length := List.length_map _
theorem valV_entT (p : Nat × Nat) : ∀ T : List (Nat × Nat), valV (entT T) (keyT p) = if p ∈ T then some (V.bl true) else none
  | [] => by simp [entT, valV_nil]
  | q :: r => by
    show valV ((keyT q, V.bl true) :: entT r) (keyT p) = _
    by_cases e : q = p
    · subst e
      rw [valV_pos (p := (keyT q, V.bl true)) rfl, if_pos (List.mem_cons_self ..)]
    · rw [valV_neg (p := (keyT q, V.bl true)) (fun z => e (keyT_iff.mp z)), valV_entT p r]
      have e' : ¬ p = q := fun z => e z.symm
      simp only [List.mem_cons, e', false_or]
theorem putK_entT (p : Nat × Nat) (T : List (Nat × Nat)) : putK (entT T) (keyT p) (V.bl true) = entT (addT T p) := by
  have e := valV_entT p T
  unfold addT
  by_cases h : p ∈ T
  · rw [if_pos h]
    rw [if_pos h] at e
    unfold putK
    rw [valV_any, e, if_pos (show (some (V.bl true)).isSome = true from rfl)]
    unfold entT
    rw [List.map_map]
    refine List.map_congr_left fun q _ => ?_
    show (if keyT q = keyT p then (keyT q, V.bl true) else (keyT q, V.bl true)) = (keyT q, V.bl true)
    split <;> rfl
  · rw [if_neg h]
    rw [if_neg h] at e
    rw [putK_new _ e]
    unfold entT
    rw [List.map_append]
    rfl
theorem addT_nodup {T : List (Nat × Nat)} (d : T.Nodup) (p : Nat × Nat) : (addT T p).Nodup := by
  unfold addT
  split
  · exact d
  · rename_i h
    exact List.nodup_append.mpr ⟨d, by simp, fun a ha b hb e => h (by rw [List.mem_singleton.mp hb] at e; exact e ▸ ha)⟩
theorem mem_addT {T : List (Nat × Nat)} {p q : Nat × Nat} : q ∈ addT T p ↔ q ∈ T ∨ q = p := by
  unfold addT
  split
  · rename_i h
    exact ⟨.inl, fun z => z.elim id fun e => e ▸ h⟩
  · rw [List.mem_append]
    simp
theorem addT_same {T : List (Nat × Nat)} {p : Nat × Nat} : (addT T p).length = T.length ↔ p ∈ T := by
  unfold addT
  split
  · rename_i h
    exact ⟨fun _ => h, fun _ => rfl⟩
  · rename_i h
    rw [List.length_append]
    exact ⟨fun z => by
      have : ([p] : List (Nat × Nat)).length = 1 := rfl
      omega, fun z => absurd z h⟩
theorem addT_len (T : List (Nat × Nat)) (p : Nat × Nat) : T.length ≤ (addT T p).length := by
  unfold addT
  split
  · exact Nat.le_refl _
  · rw [List.length_append]
    omega
/-- pairs of numbers below n: at most n times n -/
theorem pairs_few {n : Nat} {T : List (Nat × Nat)} (d : T.Nodup) (h : ∀ p ∈ T, p.1 < n ∧ p.2 < n) : T.length ≤ n * n := by
  have d2 : (T.map fun p => p.1 * n + p.2).Nodup := by
    refine List.pairwise_map.mpr (List.Pairwise.imp_of_mem (fun {p q} hp hq ne e => ne ?_) d)
    obtain ⟨a, b⟩ := p
    obtain ⟨c, f⟩ := q
    obtain ⟨h1, h2⟩ := h _ hp
    obtain ⟨h3, h4⟩ := h _ hq
    have e' : a * n + b = c * n + f := e
    have hb : b < n := h2
    have hf : f < n := h4
    have hn : 0 < n := by omega
    have m1 : (a * n + b) / n = a := by rw [Nat.mul_comm, Nat.mul_add_div hn, Nat.div_eq_of_lt hb, Nat.add_zero]
    have m2 : (c * n + f) / n = c := by rw [Nat.mul_comm, Nat.mul_add_div hn, Nat.div_eq_of_lt hf, Nat.add_zero]
    have e2 : a = c := by rw [← m1, ← m2, e']
    subst e2
    rw [show b = f by omega]
  have q : ∀ (l r : List Nat), l.Nodup → (∀ k ∈ l, k ∈ r) → l.length ≤ r.length := by
    intro l
    induction l with
    | nil => intro r _ _; exact Nat.zero_le _
    | cons x l ih =>
      intro r d s
      obtain ⟨d1, d2⟩ := List.nodup_cons.mp d
      have p := (List.perm_cons_erase (s x (List.mem_cons_self ..))).length_eq
      have q := ih (r.erase x) d2 fun k hk => (List.mem_erase_of_ne fun z : k = x => d1 (by rw [← z]; exact hk)).mpr (s k (List.mem_cons_of_mem _ hk))
      simp only [List.length_cons] at p ⊢
      omega
  have z := q _ (List.range (n * n)) d2 fun k hk => by
    obtain ⟨p, hp, rfl⟩ := List.mem_map.mp hk
    obtain ⟨h1, h2⟩ := h p hp
    rw [List.mem_range]
    have : (p.1 + 1) * n ≤ n * n := Nat.mul_le_mul_right n h1
    rw [Nat.add_mul, Nat.one_mul] at this
    omega
  rw [List.length_map, List.length_range] at z
  exact z
theorem put_pair {H : Hp} {d b : Addr} {T : List (Nat × Nat)} {p : Nat × Nat} (e : H d = some (.dT (entT T))) (eb : H b = some (.tup [.int (p.1 : Nat), .int (p.2 : Nat)])) (hl : T.length < sizeLine) :
    DPut H d (.ref b) (.bl true) (upd H d (.dT (entT (addT T p)))) := by
  have z := DPut.t (k := keyT p) (v := V.bl true) e eb (by rw [entT_length]; exact hl)
  rw [putK_entT] at z
  exact z
theorem get_pair {H : Hp} {d b : Addr} {T : List (Nat × Nat)} {p : Nat × Nat} (e : H d = some (.dT (entT T))) (eb : H b = some (.tup [.int (p.1 : Nat), .int (p.2 : Nat)])) : DGet H d (.ref b) (if p ∈ T then some (V.bl true) else none) := by
  have z := DGet.t (k := keyT p) e eb
  rw [valV_entT] at z
  exact z
end Vs

set_option Elab.async false
set_option linter.all false
set_option maxRecDepth 100000
set_option maxHeartbeats 1000000
/-! ### dicts of pairs of numbers with their places; a display with one pair as its key -/
namespace Vs
open PySem PySem.Spec PyProof.Rows L2
/-- what is stored by one pair, at the level below -/
theorem d_set1 {X : Cx} {pins : List (Addr × Obj)} {σ : L2.St} {H H' : Hp} {s : Shared} {a : Addr} {y v : V} {u r : Value} {A : Around} {E : Value → Shared → Prop} {Q : Unit → Shared → Prop} (hu : A.units < cLine) (I : Inv X pins σ H s) (g : ∃ kvs k b, H a = some (.dT kvs) ∧ y = .ref b ∧ H b = some (.tup (k.map kV)) ∧ kvs.length < sizeLine ∧ H' = upd H a (.dT (putK kvs k v))) (ry : RelV y u) (rv : RelV v r) (h : ∀ s', Inv X pins σ H' s' → Q () s') :
    wpAny (model X.prog X.w) A (dictSet a u r) Q E s := by
  obtain ⟨kvs, k, b, e, ey, eb, l, eH⟩ := g
  subst ey eH
  obtain rfl : u = Value.ref b := ry
  obtain ⟨z, hd, xs, rel, dd⟩ := dt_of I.hok e
  have hz : xs.length ≤ sizeLine := by rw [← Paired.length rel]; exact z
  have hl : (putK kvs k v).length ≤ sizeLine := by have := length_putK kvs k v; omega
  refine wpAny_dictSet_heap (hsz := hz) (show (tupleKind (mixKind X.prog X.w)).room A from hu) (key_of I.hok eb) dd fun h' dd' hs => h _ ?_
  obtain ⟨q, es, ep, hq, h2, h3, h4, _, h5⟩ := dd'
  refine d_write I (by rw [e]; exact True.intro) hs ⟨q, hq⟩ ⟨hl, hd, _, (rel.put k eb rv).keeps fun c ys ec => ?_, q, es, ep, hq, h2, h3, h4, h5⟩
  rw [upd_ne (ne_of ec e (fun z => nomatch z))]
  exact ec
def tDispT (tk tv : TE) : TE := fun σ H Q => ∀ p, H p = none → tk σ (upd H p (.dT [])) fun x H1 => tv σ H1 fun y H2 => ∃ k b, H2 p = some (.dT []) ∧ x = .ref b ∧ H2 b = some (.tup (k.map kV)) ∧ Q (.ref p) (upd H2 p (.dT [(k, y)]))
theorem pe_dispT {X : Cx} {pos : Pos} {k v : Expr} {tk tv : TE} (hu : X.A.units < cLine) (hk : PE X k tk) (hv : PE X v tv) : PE X (.Dict [some k] [v] pos) (tDispT tk tv) := by
  refine ⟨fun pins s σ H Q I q => ?_⟩
  have hn := I.hok.fresh (Nat.le_refl s.heap.objs.size)
  have I1 := I.laid (a := s.heap.objs.size) (o := .dT []) (h' := s.heap.push { cls := .type "dict", data := .dict #[] }) (t' := s.toks) (fun _ _ q => Heap.get?_push_of_some _ q) (Nat.le_refl _) (dt_empty s.heap I.big)
  refine wpAny_Dict_any (by rfl) rfl (by simp) (by show 1 ≤ 15; decide) ?_
  refine pairTrees_cons_walk (thn (hk.run pins _ σ _ _ I1 (q _ hn)) fun u s1 ⟨x, H1, J1, rx, q1⟩ => thn (hv.run pins s1 σ H1 _ J1 q1) fun w2 s2 ⟨y, H2, J2, ry, q2⟩ => pairTrees_nil_walk ?_)
  obtain ⟨k', b, e, ex, eb, q3⟩ := q2
  unfold storeAll
  rw [List.forIn_cons]
  refine wpAny_bind ?_
  refine wpAny_bind ?_
  refine d_set1 (H' := upd H2 s.heap.objs.size (.dT [(k', y)])) hu J2 ⟨[], k', b, e, ex, eb, (by rw [sizeLine_eq]; exact Nat.zero_lt_succ _), rfl⟩ rx ry fun s3 J3 => ?_
  refine wpAny_pure ?_
  show wpAny _ _ (forIn [] _ _) _ _ _
  rw [List.forIn_nil]
  exact wpAny_pure ⟨.ref s.heap.objs.size, _, J3, rfl, q3⟩
/-- pairs with their places -/
def entN (T : List (Nat × Nat)) : List (List Key × V) := (T.zipIdx).map fun p => (keyT p.1, V.int (p.2 : Nat))
theorem entN_length (T : List (Nat × Nat)) : (entN T).length = T.length := by unfold entN; rw [List.length_map, List.length_zipIdx]
theorem valV_zip (p : Nat × Nat) : ∀ (T : List (Nat × Nat)) (n : Nat), valV ((T.zipIdx n).map fun p => (keyT p.1, V.int (p.2 : Nat))) (keyT p) = if p ∈ T then some (V.int (n + T.idxOf p : Nat)) else none
  | [], n => by simp [valV_nil]
  | q :: r, n => by
    rw [List.zipIdx_cons, List.map_cons]
    by_cases e : q = p
    · subst e
      rw [valV_pos (p := (keyT q, V.int (n : Nat))) rfl, if_pos (List.mem_cons_self ..), List.idxOf_cons_self]
      rfl
    · rw [valV_neg (p := (keyT q, V.int (n : Nat))) (fun z => e (keyT_iff.mp z)), valV_zip p r (n + 1)]
      have e' : ¬ p = q := fun z => e z.symm
      by_cases h : p ∈ r
      · rw [if_pos h, if_pos (List.mem_cons_of_mem _ h), show (q :: r).idxOf p = r.idxOf p + 1 from by rw [List.idxOf_cons, show (q == p) = false from Bool.eq_false_iff.mpr fun z => e (eq_of_beq z), cond_false]]
        congr 3
        omega
      · rw [if_neg h, if_neg (by simp [e', h])]
theorem valV_entN (p : Nat × Nat) (T : List (Nat × Nat)) : valV (entN T) (keyT p) = if p ∈ T then some (V.int (T.idxOf p : Nat)) else none := by
  unfold entN
  rw [valV_zip p T 0, Nat.zero_add]
theorem putK_entN {p : Nat × Nat} {T : List (Nat × Nat)} (h : p ∉ T) : putK (entN T) (keyT p) (V.int (T.length : Nat)) = entN (T ++ [p]) := by
  have e := valV_entN p T
  rw [if_neg h] at e
  rw [putK_new _ e]
  unfold entN
  rw [List.zipIdx_append, List.map_append]
  show _ = _ ++ [(keyT p, V.int ((0 + T.length : Nat) : Int))]
  rw [Nat.zero_add]
theorem put_pairN {H : Hp} {d b : Addr} {T : List (Nat × Nat)} {p : Nat × Nat} (h : p ∉ T) (e : H d = some (.dT (entN T))) (eb : H b = some (.tup [.int (p.1 : Nat), .int (p.2 : Nat)])) (hl : T.length < sizeLine) :
    DPut H d (.ref b) (.int (T.length : Nat)) (upd H d (.dT (entN (T ++ [p])))) := by
  have z := DPut.t (k := keyT p) (v := V.int (T.length : Nat)) e eb (by rw [entN_length]; exact hl)
  rw [putK_entN h] at z
  exact z
theorem get_pairN {H : Hp} {d b : Addr} {T : List (Nat × Nat)} {p : Nat × Nat} (e : H d = some (.dT (entN T))) (eb : H b = some (.tup [.int (p.1 : Nat), .int (p.2 : Nat)])) : DGet H d (.ref b) (if p ∈ T then some (V.int (T.idxOf p : Nat)) else none) := by
  have z := DGet.t (k := keyT p) e eb
  rw [valV_entN] at z
  exact z
/-- pairs of numbers below n and m: at most n times m -/
theorem pairs_few2 {n m : Nat} {T : List (Nat × Nat)} (d : T.Nodup) (h : ∀ p ∈ T, p.1 < n ∧ p.2 < m) : T.length ≤ n * m := by
  have d2 : (T.map fun p => p.1 * m + p.2).Nodup := by
    refine List.pairwise_map.mpr (List.Pairwise.imp_of_mem (fun {p q} hp hq ne e => ne ?_) d)
    obtain ⟨a, b⟩ := p
    obtain ⟨c, f⟩ := q
    obtain ⟨h1, h2⟩ := h _ hp
    obtain ⟨h3, h4⟩ := h _ hq
    have e' : a * m + b = c * m + f := e
    have hb : b < m := h2
    have hf : f < m := h4
    have hn : 0 < m := by omega
    have m1 : (a * m + b) / m = a := by rw [Nat.mul_comm, Nat.mul_add_div hn, Nat.div_eq_of_lt hb, Nat.add_zero]
    have m2 : (c * m + f) / m = c := by rw [Nat.mul_comm, Nat.mul_add_div hn, Nat.div_eq_of_lt hf, Nat.add_zero]
    have e2 : a = c := by rw [← m1, ← m2, e']
    subst e2
    rw [show b = f by omega]
  have q : ∀ (l r : List Nat), l.Nodup → (∀ k ∈ l, k ∈ r) → l.length ≤ r.length := by
    intro l
    induction l with
    | nil => intro r _ _; exact Nat.zero_le _
    | cons x l ih =>
      intro r d s
      obtain ⟨d1, d2⟩ := List.nodup_cons.mp d
      have p := (List.perm_cons_erase (s x (List.mem_cons_self ..))).length_eq
      have q := ih (r.erase x) d2 fun k hk => (List.mem_erase_of_ne fun z : k = x => d1 (by rw [← z]; exact hk)).mpr (s k (List.mem_cons_of_mem _ hk))
      simp only [List.length_cons] at p ⊢
      omega
  have z := q _ (List.range (n * m)) d2 fun k hk => by
    obtain ⟨p, hp, rfl⟩ := List.mem_map.mp hk
    obtain ⟨h1, h2⟩ := h p hp
    rw [List.mem_range]
    have : (p.1 + 1) * m ≤ n * m := Nat.mul_le_mul_right m h1
    rw [Nat.add_mul, Nat.one_mul] at this
    omega
  rw [List.length_map, List.length_range] at z
  exact z
end Vs

set_option Elab.async false
set_option linter.all false
set_option maxRecDepth 100000
set_option maxHeartbeats 1000000
namespace Vf
open PySem PySem.Spec PyProof.Rows L2 L2.Vx Vs
/-! ### two machines side by side: pairs of states in the order in which they are met -/
structure Side (A B : List (List Nat)) (k : Nat) (ps : List (Nat × Nat)) (R : List (List Nat)) : Prop where
  first : ps[0]? = some (0, 0)
  nd : ps.Nodup
  lt : ∀ p ∈ ps, p.1 < A.length ∧ p.2 < B.length
  le : R.length ≤ ps.length
  got : ∀ p ∈ ps, ∃ w : List Nat, (∀ a ∈ w, a < k) ∧ p = (led A w 0, led B w 0)
  row : ∀ i p, i < R.length → ps[i]? = some p → ∃ r, R[i]? = some r ∧ r.length = k ∧ ∀ a, a < k → ∃ j, r[a]? = some j ∧ ps[j]? = some (nextOf A a p.1, nextOf B a p.2)
section
variable {A B R : List (List Nat)} {k : Nat} {ps : List (Nat × Nat)}
theorem side_start (hA : 0 < A.length) (hB : 0 < B.length) : Side A B k [(0, 0)] [] :=
  ⟨rfl, by simp, fun p hp => by rw [List.mem_singleton.mp hp]; exact ⟨hA, hB⟩, Nat.zero_le _, (fun p hp => ⟨[], (fun a h => nomatch h), by rw [List.mem_singleton.mp hp]; rfl⟩), fun i p h _ => absurd h (Nat.not_lt_zero i)⟩
theorem get_app {α : Type} {l m : List α} {j : Nat} {x : α} (h : l[j]? = some x) : (l ++ m)[j]? = some x := by
  rw [List.getElem?_append_left (List.getElem?_eq_some_iff.mp h).1]
  exact h
theorem Side.grow (S : Side A B k ps R) {q : Nat × Nat} (hq : q ∉ ps) (h1 : q.1 < A.length) (h2 : q.2 < B.length) {p : Nat × Nat} (hpp : p ∈ ps) {a : Nat} (ha : a < k) (eq : q = (nextOf A a p.1, nextOf B a p.2)) : Side A B k (ps ++ [q]) R := by
  refine ⟨get_app S.first, ?_, fun p hp => ?_, ?_, fun p' hp => ?_, fun i p hi hp => ?_⟩
  · exact List.nodup_append.mpr ⟨S.nd, by simp, fun a ha b hb e => hq (by rw [List.mem_singleton.mp hb] at e; exact e ▸ ha)⟩
  · rcases List.mem_append.mp hp with h | h
    · exact S.lt p h
    · rw [List.mem_singleton.mp h]
      exact ⟨h1, h2⟩
  · rw [List.length_append]
    exact Nat.le_trans S.le (Nat.le_add_right _ _)
  · rcases List.mem_append.mp hp with h | h
    · exact S.got p' h
    · obtain rfl := List.mem_singleton.mp h
      obtain ⟨w, w1, w2⟩ := S.got p hpp
      refine ⟨w ++ [a], fun b hb => (List.mem_append.mp hb).elim (w1 b) fun z => by rw [List.mem_singleton.mp z]; exact ha, ?_⟩
      rw [eq, led_one, led_one, w2]
  · rw [List.getElem?_append_left (Nat.lt_of_lt_of_le hi S.le)] at hp
    obtain ⟨r, e1, e2, e3⟩ := S.row i p hi hp
    exact ⟨r, e1, e2, fun a ha => (e3 a ha).imp fun j z => ⟨z.1, get_app z.2⟩⟩
theorem Side.snoc (S : Side A B k ps R) {p : Nat × Nat} {r : List Nat} (hp : ps[R.length]? = some p) (hr : r.length = k) (hj : ∀ a, a < k → ∃ j, r[a]? = some j ∧ ps[j]? = some (nextOf A a p.1, nextOf B a p.2)) : Side A B k ps (R ++ [r]) := by
  refine ⟨S.first, S.nd, S.lt, ?_, S.got, fun i q hi hq => ?_⟩
  · rw [List.length_append]
    exact (List.getElem?_eq_some_iff.mp hp).1
  · by_cases c : i < R.length
    · obtain ⟨r', e1, e2, e3⟩ := S.row i q c hq
      exact ⟨r', get_app e1, e2, e3⟩
    · rw [List.length_append] at hi
      have : ([r] : List (List Nat)).length = 1 := rfl
      obtain rfl : i = R.length := by omega
      rw [hp] at hq
      obtain rfl := Option.some.inj hq
      exact ⟨r, by simp, hr, hj⟩
theorem Side.few (S : Side A B k ps R) : ps.length ≤ A.length * B.length := pairs_few2 S.nd S.lt
theorem Side.at_ (S : Side A B k ps R) (e : R.length = ps.length) {i : Nat} {p : Nat × Nat} (hp : ps[i]? = some p) {a : Nat} (ha : a < k) : ps[nextOf R a i]? = some (nextOf A a p.1, nextOf B a p.2) := by
  have hi : i < R.length := by rw [e]; exact (List.getElem?_eq_some_iff.mp hp).1
  obtain ⟨r, e1, e2, e3⟩ := S.row i p hi hp
  obtain ⟨j, j1, j2⟩ := e3 a ha
  have er : rowOf R i = r := by unfold rowOf; rw [List.getD_eq_getElem?_getD, e1]; rfl
  have en : nextOf R a i = j := by unfold nextOf; rw [er, List.getD_eq_getElem?_getD, j1]; rfl
  rw [en]
  exact j2
theorem Side.led (S : Side A B k ps R) (e : R.length = ps.length) : ∀ (w : List Nat) (i : Nat) (p : Nat × Nat), (∀ a ∈ w, a < k) → ps[i]? = some p → ps[led R w i]? = some (led A w p.1, led B w p.2)
  | [], _, _, _, h => h
  | a :: w, i, p, hw, h => by
    rw [led_cons, led_cons, led_cons]
    exact Side.led S e w _ (nextOf A a p.1, nextOf B a p.2) (fun b hb => hw b (List.mem_cons_of_mem _ hb)) (S.at_ e h (hw a (List.mem_cons_self ..)))
theorem Side.sq (S : Side A B k ps R) (e : R.length = ps.length) (hk : k ≤ 100) (few : A.length * B.length ≤ 1000) : Square R k := by
  have h0 : 0 < ps.length := (List.getElem?_eq_some_iff.mp S.first).1
  refine ⟨by omega, by have := S.few; omega, fun r hr => ?_, hk, fun r hr x hx => ?_⟩
  all_goals
    obtain ⟨i, hi⟩ := List.mem_iff_getElem?.mp hr
    have hil := (List.getElem?_eq_some_iff.mp hi).1
    have hps : ps[i]? = some (ps.getD i (0, 0)) := by rw [List.getD_eq_getElem?_getD, List.getElem?_eq_getElem (by omega)]; rfl
    obtain ⟨r', e1, e2, e3⟩ := S.row i _ hil hps
    rw [hi] at e1
    obtain rfl := Option.some.inj e1
  · exact e2
  · obtain ⟨a, ha⟩ := List.mem_iff_getElem?.mp hx
    obtain ⟨j, j1, j2⟩ := e3 a (by rw [← e2]; exact (List.getElem?_eq_some_iff.mp ha).1)
    rw [ha] at j1
    obtain rfl := Option.some.inj j1
    rw [e]
    exact (List.getElem?_eq_some_iff.mp j2).1
/-- the states whose pair is wanted -/
def endsBy (ps : List (Nat × Nat)) (f : Nat × Nat → Bool) : List Nat := (List.range ps.length).filter fun i => f (ps.getD i (0, 0))
theorem mem_endsBy {f : Nat × Nat → Bool} {i : Nat} {p : Nat × Nat} (h : ps[i]? = some p) : i ∈ endsBy ps f ↔ f p = true := by
  unfold endsBy
  rw [List.mem_filter, List.mem_range, List.getD_eq_getElem?_getD, h]
  exact ⟨fun z => z.2, fun z => ⟨(List.getElem?_eq_some_iff.mp h).1, z⟩⟩
theorem Side.all (S : Side A B k ps R) (e : R.length = ps.length) (f : Nat × Nat → Bool) : (∃ p ∈ ps, f p = true) ↔ ∃ w : List Nat, (∀ a ∈ w, a < k) ∧ f (Vf.led A w 0, Vf.led B w 0) = true := by
  constructor
  · rintro ⟨p, hp, h⟩
    obtain ⟨w, w1, w2⟩ := S.got p hp
    exact ⟨w, w1, by rw [← w2]; exact h⟩
  · rintro ⟨w, w1, w2⟩
    exact ⟨_, List.mem_of_getElem? (S.led e w 0 (0, 0) w1 S.first), w2⟩
theorem Side.mach (S : Side A B k ps R) (e : R.length = ps.length) (hk : k ≤ 100) (few : A.length * B.length ≤ 1000) (f : Nat × Nat → Bool) : Mach R k (endsBy ps f) :=
  ⟨S.sq e hk few, fun x hx => by rw [e]; exact List.mem_range.mp (List.mem_filter.mp hx).1, List.Pairwise.filter _ List.pairwise_lt_range⟩
theorem Side.lang (S : Side A B k ps R) (e : R.length = ps.length) (f : Nat × Nat → Bool) {w : List Nat} (hw : ∀ a ∈ w, a < k) : Vf.led R w 0 ∈ endsBy ps f ↔ f (Vf.led A w 0, Vf.led B w 0) = true :=
  mem_endsBy (S.led e w 0 (0, 0) hw S.first)
end
end Vf

set_option Elab.async false
set_option linter.all false
set_option maxRecDepth 100000
set_option maxHeartbeats 1000000
/-! ### zip of two tuples, whose pairs go to one name -/
namespace RZ
open PySem PySem.Spec PyProof.Rows L2
section
variable {prog : Program} {w : World} {A : Around} {E : Value → Shared → Prop} {s : Shared}
abbrev IsZipG (h : Heap) (z TI TO : Addr) (f0 : Value) (f : Bool) : Prop :=
  h.get? z = some { cls := .type "zip", dict := none, data := .fields #[f0, .bool f, .bool false, .ref TI, .ref TO], slots := #[] }
def Own0 (f0 : Value) : Prop := f0 = .none ∨ ∃ T : Addr, f0 = rawInt T
theorem own_free {z TI TO : Addr} {f0 : Value} {f : Bool} {Q : Bool → Shared → Prop} (hz : IsZipG s.heap z TI TO f0 f) (ho : Own0 f0) (h1 : Q true s)
    (h2 : ∀ h' (T : Addr), IsZipG h' z TI TO (rawInt T) true → Heap.SameBut z s.heap h' → Q false { s with heap := h' }) : wpAny (model prog w) A (Builtin.SmallTypes.ownedTupleIsFree (.ref z)) Q E s := by
  rcases ho with rfl | ⟨T, rfl⟩
  · unfold Builtin.SmallTypes.ownedTupleIsFree
    exact wpAny_bind (wpAny_field hz rfl (x := .none) rfl (wpAny_pure h1))
  · cases e : s.heap.get? T with
    | some oT => exact wpAny_tupleHeld_zip hz e fun h' a b => h2 h' T a b
    | none =>
      unfold Builtin.SmallTypes.ownedTupleIsFree
      refine wpAny_bind (wpAny_field hz rfl (x := rawInt T) rfl ?_)
      show wpAny _ _ (loadIfAlive ((T : Int).toNat) >>= _) _ _ _
      rw [Int.toNat_natCast]
      have al : ∀ {R : Option Obj → Shared → Prop}, R none s → wpAny (model prog w) A (loadIfAlive T) R E s := fun {R} h => by
        have h' : R (s.heap.get? T) s := by rw [e]; exact h
        exact fun _ _ _ => h'
      refine wpAny_bind (al ?_)
      simp only [Option.isNone_none, if_true]
      exact wpAny_pure h1
theorem zipV_item {z TI TO i1 i2 l1 l2 : Addr} {k1 k2 : Nat} {xs ys : Array Value} {x y a b f0 : Value} {f : Bool} {Q : Value → Shared → Prop} (D : ZipApart z TI TO i1 i2 l1 l2)
    (hz : IsZipG s.heap z TI TO f0 f) (ho : Own0 f0) (hTI : IsPair s.heap TI (.ref i1) (.ref i2)) (hTO : IsPair s.heap TO a b)
    (h1 : s.heap.IsTupleIter i1 l1 k1) (h2 : s.heap.IsTupleIter i2 l2 k2) (hl1 : s.heap.IsTuple l1 xs) (hl2 : s.heap.IsTuple l2 ys) (hx : xs[k1]? = some x) (hy : ys[k2]? = some y)
    (hQ : ∀ h' (T : Addr) (f' : Bool) (a' b' : Value), IsZipG h' z TI TO (rawInt T) f' → IsPair h' TO a' b' → h'.IsTupleIter i1 l1 (k1 + 1) → h'.IsTupleIter i2 l2 (k2 + 1) → IsPair h' s.heap.objs.size x y → h'.objs.size = s.heap.objs.size + 1 →
      (∀ c o, c ≠ z → c ≠ TO → c ≠ i1 → c ≠ i2 → s.heap.get? c = some o → h'.get? c = some o) → Q (.ref s.heap.objs.size) { s with heap := h' }) :
    wpAny (model prog w) A (Builtin.«zip.__next__» ⟨[.ref z], []⟩) (fun fin s' => ∃ v, fin = .done (.ret v) ∧ Q v s') E s := by
  show wpAny _ _ (field (.ref z) 2 >>= _) _ _ _
  refine wpAny_bind (wpAny_field hz rfl (x := .bool false) rfl ?_)
  show wpAny _ _ (field (.ref z) 3 >>= _) _ _ _
  refine wpAny_bind (wpAny_field hz rfl (x := .ref TI) rfl ?_)
  refine wpAny_bind (wpAny_seqItems hTI rfl ?_)
  show wpAny _ _ (Builtin.SmallTypes.ownedTupleIsFree (.ref z) >>= _) _ _ _
  refine wpAny_bind (own_free hz ho ?_ fun h₁ T hz₁ hs₁ => ?_)
  · simp only [if_true]
    refine wpAny_bind (wpAny_rule ?_)
    refine wpAny_bind (wpAny_field hz rfl (x := .ref TO) rfl ?_)
    refine wpAny_bind (wpAny_setField_rec hz (by simp) fun h₁ hz₁ hs₁ => ?_)
    replace hz₁ : IsZipG h₁ z TI TO .ellipsis f := hz₁
    refine wpAny_bind ?_
    simp only [List.zipIdx_cons, List.zipIdx_nil, List.forIn_cons, List.forIn_nil]
    refine wpAny_bind (wpAny_bind (wpAny_onRaise ?_))
    show wpAny _ _ (Builtin.SmallTypes.nextOf (.ref i1) >>= _) _ _ _
    refine wpAny_bind (nextOf_tuple_item (h1.extBut hs₁.extBut D.i1z) (hl1.extBut hs₁.extBut D.l1z) hx fun h₂ h1₂ hs₂ => wpAny_pure ?_)
    have hTO₂ : IsPair h₂ TO a b := hs₂.extBut _ _ D.TOi1 (hs₁.extBut _ _ D.TOz hTO)
    refine wpAny_bind (wpAny_seqItems hTO₂ rfl ?_)
    refine wpAny_bind (wpAny_updateSeq_pair hTO₂ fun h₃ hTO₃ hs₃ => ?_)
    replace hTO₃ : IsPair h₃ TO x b := hTO₃
    refine wpAny_bind (wpAny_letGo (wpAny_pure ?_))
    refine wpAny_bind (wpAny_bind (wpAny_onRaise ?_))
    show wpAny _ _ (Builtin.SmallTypes.nextOf (.ref i2) >>= _) _ _ _
    refine wpAny_bind (nextOf_tuple_item (((h2.extBut hs₁.extBut D.i2z).extBut hs₂.extBut D.i12.symm).extBut hs₃.extBut D.TOi2.symm)
      (((hl2.extBut hs₁.extBut D.l2z).extBut hs₂.extBut D.l2i1).extBut hs₃.extBut D.l2TO) hy fun h₄ h2₄ hs₄ => wpAny_pure ?_)
    have hTO₄ : IsPair h₄ TO x b := hs₄.extBut _ _ D.TOi2 hTO₃
    refine wpAny_bind (wpAny_seqItems hTO₄ rfl ?_)
    refine wpAny_bind (wpAny_updateSeq_pair hTO₄ fun h₅ hTO₅ hs₅ => ?_)
    replace hTO₅ : IsPair h₅ TO x y := hTO₅
    refine wpAny_bind (wpAny_letGo (wpAny_pure (wpAny_pure ?_)))
    refine wpAny_bind (wpAny_seqItems hTO₅ rfl ?_)
    refine wpAny_bind (wpAny_newTuple ?_)
    have hsz : h₅.objs.size = s.heap.objs.size := by rw [hs₅.1, hs₄.1, hs₃.1, hs₂.1, hs₁.1]
    have hz₅ : IsZipG h₅ z TI TO .ellipsis f := hs₅.extBut _ _ D.TOz.symm (hs₄.extBut _ _ D.i2z.symm (hs₃.extBut _ _ D.TOz.symm (hs₂.extBut _ _ D.i1z.symm hz₁)))
    have hk₅ : ∀ c o, c ≠ z → c ≠ TO → c ≠ i1 → c ≠ i2 → s.heap.get? c = some o → h₅.get? c = some o := fun c o c1 c2 c3 c4 e =>
      hs₅.extBut _ _ c2 (hs₄.extBut _ _ c4 (hs₃.extBut _ _ c2 (hs₂.extBut _ _ c3 (hs₁.extBut _ _ c1 e))))
    have h1₅ : h₅.IsTupleIter i1 l1 (k1 + 1) := ((h1₂.extBut hs₃.extBut D.TOi1.symm).extBut hs₄.extBut D.i12).extBut hs₅.extBut D.TOi1.symm
    have h2₅ : h₅.IsTupleIter i2 l2 (k2 + 1) := h2₄.extBut hs₅.extBut D.TOi2.symm
    have hzlt : z < h₅.objs.size := Heap.lt_size hz₅
    show wpAny _ _ (Builtin.SmallTypes.ownedTupleHandOut (.ref z) (.ref h₅.objs.size) >>= _) _ _ _
    refine wpAny_bind ?_
    unfold Builtin.SmallTypes.ownedTupleHandOut
    have hz₆ : IsZipG (h₅.push { cls := .type "tuple", data := .seq #[x, y] }) z TI TO .ellipsis f := Heap.get?_push_of_some _ hz₅
    refine wpAny_bind (wpAny_setField_rec hz₆ (by simp) fun h₇ hz₇ hs₇ => ?_)
    replace hz₇ : IsZipG h₇ z TI TO (rawInt h₅.objs.size) f := hz₇
    refine wpAny_setField_rec hz₇ (by simp) fun h₈ hz₈ hs₈ => ?_
    replace hz₈ : IsZipG h₈ z TI TO (rawInt h₅.objs.size) false := hz₈
    have up : ∀ c o, c ≠ z → h₅.get? c = some o → h₈.get? c = some o := fun c o c1 e => hs₈.extBut _ _ c1 (hs₇.extBut _ _ c1 (Heap.get?_push_of_some _ e))
    have hT₈ : IsPair h₈ h₅.objs.size x y := hs₈.extBut _ _ (Nat.ne_of_gt hzlt) (hs₇.extBut _ _ (Nat.ne_of_gt hzlt) (Heap.get?_push_size _ rfl))
    have hz8 : h₈.objs.size = h₅.objs.size + 1 := by rw [hs₈.1, hs₇.1, Heap.size_push]
    rw [hsz] at hz₈ hT₈ hz8
    refine wpAny_pure ⟨_, rfl, ?_⟩
    show Q (.ref h₅.objs.size) _
    rw [hsz]
    exact hQ h₈ _ _ _ _ hz₈ (up _ _ D.TOz hTO₅) (h1₅.at fun o e => up _ o D.i1z e) (h2₅.at fun o e => up _ o D.i2z e) hT₈ hz8 fun c o c1 c2 c3 c4 e => up c o c1 (hk₅ c o c1 c2 c3 c4 e)
  · simp only [Bool.false_eq_true, if_false]
    refine wpAny_bind ?_
    rw [← Array.forIn_toList]
    simp only [List.forIn_cons, List.forIn_nil]
    refine wpAny_bind (wpAny_bind (wpAny_holding ?_))
    show wpAny _ _ (Builtin.SmallTypes.nextOf (.ref i1) >>= _) _ _ _
    refine wpAny_bind (nextOf_tuple_item (s := { s with heap := h₁ }) (h1.extBut hs₁.extBut D.i1z) (hl1.extBut hs₁.extBut D.l1z) hx fun h₂ h1₂ hs₂ => wpAny_pure ?_)
    refine wpAny_pure ?_
    refine wpAny_bind (wpAny_bind (wpAny_holding ?_))
    show wpAny _ _ (Builtin.SmallTypes.nextOf (.ref i2) >>= _) _ _ _
    refine wpAny_bind (nextOf_tuple_item (s := { s with heap := h₂ }) ((h2.extBut hs₁.extBut D.i2z).extBut hs₂.extBut D.i12.symm) ((hl2.extBut hs₁.extBut D.l2z).extBut hs₂.extBut D.l2i1) hy fun h₃ h2₃ hs₃ => wpAny_pure ?_)
    refine wpAny_pure (wpAny_pure ?_)
    show wpAny _ _ (newTuple [x, y] >>= _) _ _ _
    refine wpAny_bind (wpAny_newTuple ?_)
    have hsz : h₃.objs.size = s.heap.objs.size := by rw [hs₃.1, hs₂.1, hs₁.1]
    have hz₃ : IsZipG h₃ z TI TO (rawInt T) true := hs₃.extBut _ _ D.i2z.symm (hs₂.extBut _ _ D.i1z.symm hz₁)
    have hk : ∀ c o, c ≠ z → c ≠ i1 → c ≠ i2 → s.heap.get? c = some o → h₃.get? c = some o := fun c o c1 c2 c3 e => hs₃.extBut _ _ c3 (hs₂.extBut _ _ c2 (hs₁.extBut _ _ c1 e))
    have h1₃ : h₃.IsTupleIter i1 l1 (k1 + 1) := h1₂.extBut hs₃.extBut D.i12
    refine wpAny_pure ⟨_, rfl, ?_⟩
    show Q (.ref h₃.objs.size) _
    have hp : IsPair (h₃.push { cls := .type "tuple", data := .seq #[x, y] }) h₃.objs.size x y := Heap.get?_push_size _ rfl
    have hz4 : (h₃.push { cls := .type "tuple", data := .seq #[x, y] }).objs.size = h₃.objs.size + 1 := Heap.size_push ..
    rw [hsz] at hp hz4 ⊢
    exact hQ _ T true _ _ (Heap.get?_push_of_some _ hz₃) (Heap.get?_push_of_some _ (hk _ _ D.TOz D.TOi1 D.TOi2 hTO)) (h1₃.at fun o e => Heap.get?_push_of_some _ e) (h2₃.at fun o e => Heap.get?_push_of_some _ e) hp hz4 fun c o c1 _ c3 c4 e => Heap.get?_push_of_some _ (hk c o c1 c3 c4 e)
theorem zipV_end {z TI TO i1 i2 l1 l2 : Addr} {k1 k2 : Nat} {xs ys : Array Value} {a b f0 : Value} {f : Bool} {Q : Fin → Shared → Prop} (hh : A.handled = none) (D : ZipApart z TI TO i1 i2 l1 l2)
    (hz : IsZipG s.heap z TI TO f0 f) (ho : Own0 f0) (hTI : IsPair s.heap TI (.ref i1) (.ref i2)) (hTO : IsPair s.heap TO a b)
    (h1 : s.heap.IsTupleIter i1 l1 k1) (h2 : s.heap.IsTupleIter i2 l2 k2) (hl1 : s.heap.IsTuple l1 xs) (hl2 : s.heap.IsTuple l2 ys) (hend : xs[k1]? = none ∨ ys[k2]? = none)
    (hE : ∀ h' e, (∀ c o, c ≠ z → c ≠ TO → c ≠ i1 → c ≠ i2 → s.heap.get? c = some o → h'.get? c = some o) → (∃ o, h'.get? e = some o ∧ o.cls = .type "StopIteration") → E (.ref e) { s with heap := h' }) :
    wpAny (model prog w) A (Builtin.«zip.__next__» ⟨[.ref z], []⟩) Q E s := by
  show wpAny _ _ (field (.ref z) 2 >>= _) _ _ _
  refine wpAny_bind (wpAny_field hz rfl (x := .bool false) rfl ?_)
  show wpAny _ _ (field (.ref z) 3 >>= _) _ _ _
  refine wpAny_bind (wpAny_field hz rfl (x := .ref TI) rfl ?_)
  refine wpAny_bind (wpAny_seqItems hTI rfl ?_)
  show wpAny _ _ (Builtin.SmallTypes.ownedTupleIsFree (.ref z) >>= _) _ _ _
  refine wpAny_bind (own_free hz ho ?_ fun h₁ T hz₁ hs₁ => ?_)
  · simp only [if_true]
    refine wpAny_bind (wpAny_rule ?_)
    refine wpAny_bind (wpAny_field hz rfl (x := .ref TO) rfl ?_)
    refine wpAny_bind (wpAny_setField_rec hz (by simp) fun h₁ hz₁ hs₁ => ?_)
    replace hz₁ : IsZipG h₁ z TI TO .ellipsis f := hz₁
    refine wpAny_bind ?_
    simp only [List.zipIdx_cons, List.zipIdx_nil, List.forIn_cons, List.forIn_nil]
    refine wpAny_bind (wpAny_bind (wpAny_onRaise ?_))
    show wpAny _ _ (Builtin.SmallTypes.nextOf (.ref i1) >>= _) _ _ _
    cases hx : xs[k1]? with
    | none =>
      refine wpAny_bind (nextOf_tuple_end hh (h1.extBut hs₁.extBut D.i1z) (hl1.extBut hs₁.extBut D.l1z) hx fun h₂ e hs₂ he => ?_)
      obtain ⟨oe, hoe, hce⟩ := he
      have hz₂ : IsZipG h₂ z TI TO .ellipsis f := hs₂ _ _ D.i1z.symm hz₁
      have hez : e ≠ z := fun x => by subst x; rw [hz₂] at hoe; cases hoe; simp at hce
      refine wpAny_setField_rec hz₂ (by simp) fun h₃ _ hs₃ => hE h₃ e (fun c o c1 _ c3 _ x => hs₃.extBut _ _ c1 (hs₂ _ _ c3 (hs₁.extBut _ _ c1 x))) ⟨oe, hs₃.extBut _ _ hez hoe, hce⟩
    | some x =>
      have hy : ys[k2]? = none := by rcases hend with h | h; rw [hx] at h; cases h; exact h
      refine wpAny_bind (nextOf_tuple_item (h1.extBut hs₁.extBut D.i1z) (hl1.extBut hs₁.extBut D.l1z) hx fun h₂ h1₂ hs₂ => wpAny_pure ?_)
      have hTO₂ : IsPair h₂ TO a b := hs₂.extBut _ _ D.TOi1 (hs₁.extBut _ _ D.TOz hTO)
      refine wpAny_bind (wpAny_seqItems hTO₂ rfl ?_)
      refine wpAny_bind (wpAny_updateSeq_pair hTO₂ fun h₃ hTO₃ hs₃ => ?_)
      refine wpAny_bind (wpAny_letGo (wpAny_pure ?_))
      refine wpAny_bind (wpAny_bind (wpAny_onRaise ?_))
      show wpAny _ _ (Builtin.SmallTypes.nextOf (.ref i2) >>= _) _ _ _
      refine wpAny_bind (nextOf_tuple_end hh (((h2.extBut hs₁.extBut D.i2z).extBut hs₂.extBut D.i12.symm).extBut hs₃.extBut D.TOi2.symm)
        (((hl2.extBut hs₁.extBut D.l2z).extBut hs₂.extBut D.l2i1).extBut hs₃.extBut D.l2TO) hy fun h₄ e hs₄ he => ?_)
      obtain ⟨oe, hoe, hce⟩ := he
      have hz₄ : IsZipG h₄ z TI TO .ellipsis f := hs₄ _ _ D.i2z.symm (hs₃.extBut _ _ D.TOz.symm (hs₂.extBut _ _ D.i1z.symm hz₁))
      have hez : e ≠ z := fun x => by subst x; rw [hz₄] at hoe; cases hoe; simp at hce
      refine wpAny_setField_rec hz₄ (by simp) fun h₅ _ hs₅ => hE h₅ e (fun c o c1 c2 c3 c4 x => hs₅.extBut _ _ c1 (hs₄ _ _ c4 (hs₃.extBut _ _ c2 (hs₂.extBut _ _ c3 (hs₁.extBut _ _ c1 x))))) ⟨oe, hs₅.extBut _ _ hez hoe, hce⟩
  · simp only [Bool.false_eq_true, if_false]
    refine wpAny_bind ?_
    rw [← Array.forIn_toList]
    simp only [List.forIn_cons, List.forIn_nil]
    refine wpAny_bind (wpAny_bind (wpAny_holding ?_))
    show wpAny _ _ (Builtin.SmallTypes.nextOf (.ref i1) >>= _) _ _ _
    cases hx : xs[k1]? with
    | none =>
      refine wpAny_bind (nextOf_tuple_end (s := { s with heap := h₁ }) hh (h1.extBut hs₁.extBut D.i1z) (hl1.extBut hs₁.extBut D.l1z) hx fun h₂ e hs₂ he => ?_)
      exact hE h₂ e (fun c o c1 _ c2 _ x => hs₂ _ _ c2 (hs₁.extBut _ _ c1 x)) he
    | some x =>
      have hy : ys[k2]? = none := by rcases hend with h | h; rw [hx] at h; cases h; exact h
      refine wpAny_bind (nextOf_tuple_item (s := { s with heap := h₁ }) (h1.extBut hs₁.extBut D.i1z) (hl1.extBut hs₁.extBut D.l1z) hx fun h₂ h1₂ hs₂ => wpAny_pure ?_)
      refine wpAny_pure ?_
      refine wpAny_bind (wpAny_bind (wpAny_holding ?_))
      show wpAny _ _ (Builtin.SmallTypes.nextOf (.ref i2) >>= _) _ _ _
      refine wpAny_bind (nextOf_tuple_end (s := { s with heap := h₂ }) hh ((h2.extBut hs₁.extBut D.i2z).extBut hs₂.extBut D.i12.symm) ((hl2.extBut hs₁.extBut D.l2z).extBut hs₂.extBut D.l2i1) hy fun h₃ e hs₃ he => ?_)
      exact hE h₃ e (fun c o c1 _ c2 c3 x => hs₃ _ _ c3 (hs₂.extBut _ _ c2 (hs₁.extBut _ _ c1 x))) he
theorem pyNext_zipV_item {z TI TO i1 i2 l1 l2 : Addr} {k1 k2 : Nat} {xs ys : Array Value} {x y a b f0 : Value} {f : Bool} {Q : Option Value → Shared → Prop} (D : ZipApart z TI TO i1 i2 l1 l2)
    (hz : IsZipG s.heap z TI TO f0 f) (ho : Own0 f0) (hTI : IsPair s.heap TI (.ref i1) (.ref i2)) (hTO : IsPair s.heap TO a b)
    (h1 : s.heap.IsTupleIter i1 l1 k1) (h2 : s.heap.IsTupleIter i2 l2 k2) (hl1 : s.heap.IsTuple l1 xs) (hl2 : s.heap.IsTuple l2 ys) (hx : xs[k1]? = some x) (hy : ys[k2]? = some y)
    (hQ : ∀ h' (T : Addr) (f' : Bool) (a' b' : Value), IsZipG h' z TI TO (rawInt T) f' → IsPair h' TO a' b' → h'.IsTupleIter i1 l1 (k1 + 1) → h'.IsTupleIter i2 l2 (k2 + 1) → IsPair h' s.heap.objs.size x y → h'.objs.size = s.heap.objs.size + 1 →
      (∀ c o, c ≠ z → c ≠ TO → c ≠ i1 → c ≠ i2 → s.heap.get? c = some o → h'.get? c = some o) → Q (some (.ref s.heap.objs.size)) { s with heap := h' }) :
    wpAny (model prog w) A (pyNext (.ref z)) Q E s := by
  have hT : s.TypeIs (.ref z) "zip" := ⟨_, hz, rfl⟩
  unfold pyNext
  exact wpAny_bind (wpAny_attempt (wpAny_callSpecial?_slot (name := Str.ofString "__next__") hT F.slot_zip_next
    (wpAny_call_entry F.slot_zip_next hT F.entry_zip_next
      (zipV_item D hz ho hTI hTO h1 h2 hl1 hl2 hx hy fun h' T f' a' b' a1 a2 a3 a4 a5 a6 a7 => wpAny_pure (hQ h' T f' a' b' a1 a2 a3 a4 a5 a6 a7)) (F.args_zip_next_1 _))))
theorem pyNext_zipV_end {z TI TO i1 i2 l1 l2 : Addr} {k1 k2 : Nat} {xs ys : Array Value} {a b f0 : Value} {f : Bool} {Q : Option Value → Shared → Prop} (hh : A.handled = none) (D : ZipApart z TI TO i1 i2 l1 l2)
    (hz : IsZipG s.heap z TI TO f0 f) (ho : Own0 f0) (hTI : IsPair s.heap TI (.ref i1) (.ref i2)) (hTO : IsPair s.heap TO a b)
    (h1 : s.heap.IsTupleIter i1 l1 k1) (h2 : s.heap.IsTupleIter i2 l2 k2) (hl1 : s.heap.IsTuple l1 xs) (hl2 : s.heap.IsTuple l2 ys) (hend : xs[k1]? = none ∨ ys[k2]? = none)
    (hQ : ∀ h', (∀ c o, c ≠ z → c ≠ TO → c ≠ i1 → c ≠ i2 → s.heap.get? c = some o → h'.get? c = some o) → Q none { s with heap := h' }) : wpAny (model prog w) A (pyNext (.ref z)) Q E s := by
  have hT : s.TypeIs (.ref z) "zip" := ⟨_, hz, rfl⟩
  unfold pyNext
  refine wpAny_bind (wpAny_attempt (wpAny_callSpecial?_slot (name := Str.ofString "__next__") hT F.slot_zip_next
    (wpAny_call_entry F.slot_zip_next hT F.entry_zip_next (zipV_end hh D hz ho hTI hTO h1 h2 hl1 hl2 hend fun h' e hk he => ?_) (F.args_zip_next_1 _))))
  obtain ⟨o, ho, hc⟩ := he
  refine wpAny_bind (wpAny_isInstance (T := "StopIteration") (b := true) ⟨o, ho, hc⟩ isSubtype_stop ?_)
  exact wpAny_pure (hQ _ hk)
theorem pyIter_zipV {z TI TO : Addr} {f0 : Value} {f : Bool} {Q : Value → Shared → Prop} (hz : IsZipG s.heap z TI TO f0 f) (h : Q (.ref z) s) : wpAny (model prog w) A (pyIter (.ref z)) Q E s := by
  have hT : s.TypeIs (.ref z) "zip" := ⟨_, hz, rfl⟩
  refine wpAny_pyIter_slot hT F.slot_zip_iter (wpAny_call_entry F.slot_zip_iter hT F.entry_zip_iter ?_ (F.args_zip_iter_1 _))
  show wpAny _ _ (ret (.ref z)) _ _ s
  exact wpAny_pure ⟨_, rfl, "zip", _, hT, F.slot_zip_next.lookup, h⟩
end
theorem turn_zipV {P : Program} {w : World} {K : PySem.W.Frag} {x : Str} {tpos : Pos} {a b z TI TO i1 i2 : Addr} (D : ZipApart z TI TO i1 i2 a b) :
    Turn P w K (.Name x tpos) (ItzT K a b) [z, TI, TO, i1, i2] z (fun i h => (∃ f0 f, IsZipG h z TI TO f0 f ∧ Own0 f0) ∧ IsPair h TI (.ref i1) (.ref i2) ∧ (∃ x y, IsPair h TO x y) ∧ h.IsTupleIter i1 a i ∧ h.IsTupleIter i2 b i) where
  mem := by simp
  obj := fun i h st c hc => by
    obtain ⟨⟨f0, f, hz, ho⟩, hTI, ⟨x, y, hTO⟩, ⟨o1, e1, _, d1⟩, ⟨o2, e2, _, d2⟩⟩ := st
    have e' : c = z ∨ c = TI ∨ c = TO ∨ c = i1 ∨ c = i2 := by simpa using hc
    rcases e' with q | q | q | q | q
    · rw [q]; exact ⟨_, hz, fun v q => nomatch q⟩
    · rw [q]; exact ⟨_, hTI, fun v q => nomatch q⟩
    · rw [q]; exact ⟨_, hTO, fun v q => nomatch q⟩
    · rw [q]; exact ⟨o1, e1, fun v q => by rw [d1] at q; cases q⟩
    · rw [q]; exact ⟨o2, e2, fun v q => by rw [d2] at q; cases q⟩
  keep := fun i h h' st k => by
    obtain ⟨⟨f0, f, hz, ho⟩, hTI, ⟨x, y, hTO⟩, h1, h2⟩ := st
    exact ⟨⟨f0, f, k z (by simp) _ hz, ho⟩, k TI (by simp) _ hTI, ⟨x, y, k TO (by simp) _ hTO⟩, h1.at fun o q => k i1 (by simp) o q, h2.at fun o q => k i2 (by simp) o q⟩
  item := by
    intro X hP hw hK hc i pins s σ H E I hf st hg
    subst hP hw hK
    obtain ⟨⟨f0, f, hz, ho⟩, hTI, ⟨x0, y0, hTO⟩, h1, h2⟩ := st
    obtain ⟨xs, ys, x, y, hqx, hqy, hx, hy⟩ := hg
    obtain ⟨its, rv, p, _⟩ := I.tuple hqx
    obtain ⟨its2, rv2, p2, _⟩ := I.tuple hqy
    obtain ⟨u, hu, ru⟩ := rv.get hx
    obtain ⟨u2, hu2, ru2⟩ := rv2.get hy
    have hzl : z < s.heap.objs.size := Heap.lt_size hz
    refine pyNext_zipV_item D hz ho hTI hTO h1 h2 p p2 (x := u) (y := u2) (by simpa using hu) (by simpa using hu2) fun h' T f' a' b' z' TO' h1' h2' hT hsz hk => ?_
    refine ⟨_, rfl, ?_⟩
    unfold letOwnedTupleGo
    refine wpAny_pure ?_
    have new : ObjOk X.prog X.w (upd H s.heap.objs.size (.tup [x, y])) h' s.heap.objs.size (.tup [x, y]) :=
      ⟨by show 2 ≤ sizeLine; decide, [u, u2], .cons ru (.cons ru2 .nil), ⟨_, hT, rfl, _, rfl⟩⟩
    have I1 : Inv X pins σ (upd H s.heap.objs.size (.tup [x, y])) { s with heap := h' } :=
      I.turnedNew (t' := s.toks) (ch := [z, TI, TO, i1, i2]) (fun c o hb q => hk c o (fun q' => hb (by simp [q'])) (fun q' => hb (by simp [q'])) (fun q' => hb (by simp [q'])) (fun q' => hb (by simp [q'])) q) hf (Nat.le_refl _) new
    refine ⟨.ref s.heap.objs.size, _, I1, rfl, ⟨_, x, y, rfl, I.hok.fresh (Nat.le_refl _), rfl, fun l hl => by rw [I.tuple_inj hl hqx]; exact hx, fun l hl => by rw [I.tuple_inj hl hqy]; exact hy⟩, ⟨⟨_, f', z', .inr ⟨T, rfl⟩⟩, ?_, ⟨a', b', TO'⟩, h1', h2'⟩, fun c hcm => ?_⟩
    · exact hk _ _ D.TIz D.TITO D.TIi1 D.TIi2 hTI
    · have hlt : c < s.heap.objs.size := by
        have e' : c = z ∨ c = TI ∨ c = TO ∨ c = i1 ∨ c = i2 := by simpa using hcm
        rcases e' with q | q | q | q | q
        · rw [q]; exact hzl
        · rw [q]; exact Heap.lt_size hTI
        · rw [q]; exact Heap.lt_size hTO
        · rw [q]; obtain ⟨_, e1, _⟩ := h1; exact Heap.lt_size e1
        · rw [q]; obtain ⟨_, e2, _⟩ := h2; exact Heap.lt_size e2
      rw [upd_ne (Nat.ne_of_lt hlt)]
      exact (hf c hcm).1
  done := by
    intro X hP hw hK hc i pins s σ H E I hf st hg
    subst hP hw hK
    obtain ⟨⟨f0, f, hz, ho⟩, hTI, ⟨x0, y0, hTO⟩, h1, h2⟩ := st
    obtain ⟨xs, ys, hqx, hqy, hend⟩ := hg
    obtain ⟨its, rv, p, _⟩ := I.tuple hqx
    obtain ⟨its2, rv2, p2, _⟩ := I.tuple hqy
    have l1 := rv.length
    have l2 := rv2.length
    have he : its.toArray[i]? = none ∨ its2.toArray[i]? = none := by
      rcases hend with q | q
      · exact .inl (by simp; omega)
      · exact .inr (by simp; omega)
    exact pyNext_zipV_end (I.ok.hd hc) D hz ho hTI hTO h1 h2 p p2 he fun h' hk => ⟨rfl, I.turnedL (t' := s.toks) (ch := [z, TI, TO, i1, i2]) (fun c o hb q =>
      hk c o (fun q' => hb (by simp [q'])) (fun q' => hb (by simp [q'])) (fun q' => hb (by simp [q'])) (fun q' => hb (by simp [q'])) q) hf⟩
  self := fun A i s Q E st h => by
    obtain ⟨⟨f0, f, hz, ho⟩, _⟩ := st
    exact pyIter_zipV hz h
def iZipV (K : PySem.W.Frag) (ta : TA) : TI := fun σ H R => ta σ H fun vs H1 => ∃ a b xs ys, vs = [.ref a, .ref b] ∧ SqT K H1 a xs ∧ SqT K H1 b ys ∧ R (ItzT K a b) H1
theorem pi_zipV {X : Cx} {e e2 : Expr} {ta : TA} {p pos tpos : Pos} {nm : Str} (hg : Gl X "zip") (hm : X.mg "zip" = none) (ha : PA X [e, e2] ta)
    (hs : starEach [e, e2] X.env = (false, eval e X.env) :: starEach [e2] X.env := by rfl) (hpl : (backTo pos (starEach [e2] X.env)).any (·.1) = false := by rfl) :
    PI X (.Name nm tpos) (.Call (.Name "zip" p) [e, e2] [] pos) (iZipV X.K ta) := by
  refine ⟨fun pins s σ H R I h => ?_⟩
  refine Call_ (ld_blt I hg hm PyProof.Rows.boot_zip (PyProof.Rows.callWith_type1 (thn (ha.run pos pins s σ H _ I h) fun us s1 ⟨vs, H1, I1, r1, q1⟩ => ?_) hs hpl))
  obtain ⟨a, b, xs, ys, ex, hqx, hqy, q⟩ := q1
  subst ex
  cases r1 with
  | cons r rr =>
    cases rr with
    | cons r' rr =>
      cases rr
      cases r
      cases r'
      have fresh5 : ∀ c, c ∈ [s1.heap.objs.size + 4, s1.heap.objs.size + 2, s1.heap.objs.size + 3, s1.heap.objs.size, s1.heap.objs.size + 1] → FpOk X pins H1 c := fun c hcm => by
        have e' : c = s1.heap.objs.size + 4 ∨ c = s1.heap.objs.size + 2 ∨ c = s1.heap.objs.size + 3 ∨ c = s1.heap.objs.size ∨ c = s1.heap.objs.size + 1 := by simpa using hcm
        have hle : s1.heap.objs.size ≤ c := by
          rcases e' with z | z | z | z | z
          · rw [z]; exact Nat.le_add_right _ _
          · rw [z]; exact Nat.le_add_right _ _
          · rw [z]; exact Nat.le_add_right _ _
          · rw [z]; exact Nat.le_refl _
          · rw [z]; exact Nat.le_add_right _ _
        exact I1.fpOk hle (I1.hok.fresh hle)
      obtain ⟨its, rv, p1, _⟩ := I1.tuple hqx
      obtain ⟨its2, rv2, p2, _⟩ := I1.tuple hqy
      obtain ⟨o1, ho1, _⟩ := id p1
      obtain ⟨o2, ho2, _⟩ := id p2
      refine call_zipT (show s1.heap.IsTuple a its.toArray from p1) (show s1.heap.IsTuple b its2.toArray from p2) fun h' hz hTI hTO h1 h2 hsz hk => pyIter_zipV (f := false) hz ?_
      have I2 : Inv X pins σ H1 { s1 with heap := h' } := I1.kept (t' := s1.toks) hk
      exact ⟨s1.heap.objs.size + 4, [s1.heap.objs.size + 4, s1.heap.objs.size + 2, s1.heap.objs.size + 3, s1.heap.objs.size, s1.heap.objs.size + 1], _, _, H1, rfl, I2, turn_zipV (PySem.W.ktu_apart s1.heap.objs.size a b (Heap.lt_size ho1) (Heap.lt_size ho2)), ⟨⟨.none, false, hz, .inl rfl⟩, hTI, ⟨_, _, hTO⟩, h1, h2⟩, fresh5, q⟩
end RZ

set_option Elab.async false
set_option linter.all false
set_option maxRecDepth 100000
set_option maxHeartbeats 4000000
namespace Vm
open PySem PySem.Spec PyProof.Rows L2 L2.Vx
/-! ### data of texts, ints, lists and tuples: what is equal, what is shown -/
section
mutual
def plainD : PyData → Bool
  | .int _ => true
  | .str x => x.cps.toList.all fun c => decide (c < 1000)
  | .list xs => plainDs xs
  | .tuple xs => plainDs xs
  | _ => false
def plainDs : List PyData → Bool
  | [] => true
  | x :: xs => plainD x && plainDs xs
end
mutual
theorem eqv_plain : ∀ (d e : PyData), plainD d = true → plainD e = true → PyData.eqv d e = true → d = e
  | .int i, .int j, _, _, h => by
    simp only [PyData.eqv, beq_iff_eq] at h
    rw [h]
  | .int _, .str _, _, _, h => by simp [PyData.eqv] at h
  | .int _, .list _, _, _, h => by simp [PyData.eqv] at h
  | .int _, .tuple _, _, _, h => by simp [PyData.eqv] at h
  | .str x, .str y, _, _, h => by
    simp only [PyData.eqv, beq_iff_eq] at h
    rw [h]
  | .str _, .int _, _, _, h => by simp [PyData.eqv] at h
  | .str _, .list _, _, _, h => by simp [PyData.eqv] at h
  | .str _, .tuple _, _, _, h => by simp [PyData.eqv] at h
  | .list xs, .list ys, h1, h2, h => by
    simp only [PyData.eqv] at h
    simp only [plainD] at h1 h2
    rw [eqv_plainAll xs ys h1 h2 h]
  | .list _, .int _, _, _, h => by simp [PyData.eqv] at h
  | .list _, .str _, _, _, h => by simp [PyData.eqv] at h
  | .list _, .tuple _, _, _, h => by simp [PyData.eqv] at h
  | .tuple xs, .tuple ys, h1, h2, h => by
    simp only [PyData.eqv] at h
    simp only [plainD] at h1 h2
    rw [eqv_plainAll xs ys h1 h2 h]
  | .tuple _, .int _, _, _, h => by simp [PyData.eqv] at h
  | .tuple _, .str _, _, _, h => by simp [PyData.eqv] at h
  | .tuple _, .list _, _, _, h => by simp [PyData.eqv] at h
  | .none, _, h, _, _ => by simp [plainD] at h
  | .bool _, _, h, _, _ => by simp [plainD] at h
  | .dict _, _, h, _, _ => by simp [plainD] at h
  | .int _, .none, _, h, _ => by simp [plainD] at h
  | .int _, .bool _, _, h, _ => by simp [plainD] at h
  | .int _, .dict _, _, h, _ => by simp [plainD] at h
  | .str _, .none, _, h, _ => by simp [plainD] at h
  | .str _, .bool _, _, h, _ => by simp [plainD] at h
  | .str _, .dict _, _, h, _ => by simp [plainD] at h
  | .list _, .none, _, h, _ => by simp [plainD] at h
  | .list _, .bool _, _, h, _ => by simp [plainD] at h
  | .list _, .dict _, _, h, _ => by simp [plainD] at h
  | .tuple _, .none, _, h, _ => by simp [plainD] at h
  | .tuple _, .bool _, _, h, _ => by simp [plainD] at h
  | .tuple _, .dict _, _, h, _ => by simp [plainD] at h
theorem eqv_plainAll : ∀ (xs ys : List PyData), plainDs xs = true → plainDs ys = true → PyData.eqvAll xs ys = true → xs = ys
  | [], [], _, _, _ => rfl
  | [], _ :: _, _, _, h => by simp [PyData.eqvAll] at h
  | _ :: _, [], _, _, h => by simp [PyData.eqvAll] at h
  | x :: xs, y :: ys, h1, h2, h => by
    simp only [plainDs, Bool.and_eq_true] at h1 h2
    simp only [PyData.eqvAll, Bool.and_eq_true] at h
    rw [eqv_plain x y h1.1 h2.1 h.1, eqv_plainAll xs ys h1.2 h2.2 h.2]
end
mutual
theorem lay_plain : ∀ d : PyData, plainD d = true → d.canLay0 = true
  | .int _, _ => by simp [PyData.canLay0]
  | .str x, h => by
    simp only [plainD, List.all_eq_true, decide_eq_true_iff] at h
    simp only [PyData.canLay0, PyData.strOk]
    rw [← Array.all_toList, List.all_eq_true]
    exact fun c hc => decide_eq_true (Nat.lt_trans (h c hc) (by decide))
  | .list xs, h => by
    simp only [plainD] at h
    simp only [PyData.canLay0]
    exact lay_plainAll xs h
  | .tuple xs, h => by
    simp only [plainD] at h
    simp only [PyData.canLay0]
    exact lay_plainAll xs h
  | .none, h => by simp [plainD] at h
  | .bool _, h => by simp [plainD] at h
  | .dict _, h => by simp [plainD] at h
theorem lay_plainAll : ∀ xs : List PyData, plainDs xs = true → PyData.canLayAll0 xs = true
  | [], _ => by simp [PyData.canLayAll0]
  | x :: xs, h => by
    simp only [plainDs, Bool.and_eq_true] at h
    simp only [PyData.canLayAll0, lay_plain x h.1, lay_plainAll xs h.2, Bool.and_self]
end
mutual
theorem dt_dp {K : PySem.W.Frag} {H : Hp} {S : Addr → Prop} : ∀ {v : V} {d : PyData}, Dt H S v d → plainD d = true → Dp K H v d
  | v, d, .flat e, h => by
    cases v with
    | int i => cases (show d = .int i from e); exact .int i
    | str x => cases (show d = .str x from e); exact .str x
    | non => cases (show d = .none from e); simp [plainD] at h
    | bl b => cases (show d = .bool b from e); simp [plainD] at h
    | _ => exact (show False from e).elim
  | _, _, .lst e _ r, h => by
    simp only [plainD] at h
    exact .lst (SqL.of e) (dtA_dp r h)
  | _, _, .tup e _ r, h => by
    simp only [plainD] at h
    exact .tup (SqT.of e) (dtA_dp r h)
  | _, _, .dct e _ r, h => by simp [plainD] at h
theorem dtA_dp {K : PySem.W.Frag} {H : Hp} {S : Addr → Prop} : ∀ {vs : List V} {ds : List PyData}, DtAll H S vs ds → plainDs ds = true → DpAll K H vs ds
  | _, _, .nil, _ => .nil
  | _, _, .cons a b, h => by
    simp only [plainDs, Bool.and_eq_true] at h
    exact .cons (dt_dp a h.1) (dtA_dp b h.2)
end
end
theorem plain_mkS {z : Wd} (h : ∀ c ∈ z, c < 1000) : plainD (.str (mkS z)) = true := by
  simp only [plainD, mkS_cps, List.all_eq_true, decide_eq_true_iff]
  exact h
theorem plainAll_of : ∀ {ds : List PyData}, (∀ d ∈ ds, plainD d = true) → plainDs ds = true
  | [], _ => by simp [plainDs]
  | x :: r, h => by
    simp only [plainDs, h x (List.mem_cons_self ..), plainAll_of fun d hd => h d (List.mem_cons_of_mem _ hd), Bool.and_self]
/-- bounds that are added up -/
inductive Fits (e : Nat) : Nat → Nat → List PyData → Prop
  | nil : Fits e 0 0 []
  | cons {b s n : Nat} {x : PyData} {ds : List PyData} : Fit b e x → Fits e s n ds → Fits e (b + s) (n + 1) (x :: ds)
theorem Fits.all {e s n : Nat} {ds : List PyData} (h : Fits e s n ds) : PyData.showableAll ds = true ∧ ((PyData.shownAll ds).map (·.length)).sum ≤ s ∧ (PyData.shownAll ds).length = n ∧ PyData.depthAll ds ≤ e := by
  induction h with
  | nil => exact ⟨by simp [PyData.showableAll], by simp [PyData.shownAll], by simp [PyData.shownAll], by simp [PyData.depthAll]⟩
  | cons hx _ ih =>
    obtain ⟨i1, i2, i3, i4⟩ := ih
    have h2 := hx.len
    have h3 := hx.dep
    refine ⟨by simp only [PyData.showableAll, hx.sh, i1, Bool.and_self], ?_, ?_, ?_⟩
    · simp only [PyData.shownAll, List.map_cons, List.sum_cons]
      omega
    · simp only [PyData.shownAll, List.length_cons, i3]
    · simp only [PyData.depthAll]
      exact Nat.max_le.mpr ⟨h3, i4⟩
theorem Fits.tup {e s n : Nat} {ds : List PyData} (h : Fits e s n ds) : Fit (s + 2 * n + 3) (e + 1) (.tuple ds) := by
  obtain ⟨i1, i2, i3, i4⟩ := h.all
  refine ⟨by simpa only [PyData.showable] using i1, ?_, by simp only [PyData.depth]; omega⟩
  simp only [PyData.shown]
  refine Nat.le_trans (tupleText_len_le _) ?_
  rw [i3]
  omega
theorem Fits.lst {e s n : Nat} {ds : List PyData} (h : Fits e s n ds) : Fit (s + 2 * n + 3) (e + 1) (.list ds) := by
  obtain ⟨i1, i2, i3, i4⟩ := h.all
  refine ⟨by simpa only [PyData.showable] using i1, ?_, by simp only [PyData.depth]; omega⟩
  simp only [PyData.shown]
  refine Nat.le_trans (listText_len_le _) ?_
  rw [i3]
  omega
end Vm

set_option Elab.async false
set_option linter.all false
set_option maxRecDepth 100000
set_option maxHeartbeats 4000000
namespace L2
open PySem PySem.Spec PyProof.Rows
/-! ### len(o), o[i] of an object with an own __len__, __getitem__ -/
section
variable {X : Cx} {CX : CXT} {k : Nat} {f C : Addr} {fd : FuncData} {ps : List Str} {sp : Sp} {E : XK} {dvs : List V} {ds : List Value}
theorem run_in1 {pins : List (Addr × Obj)} {σ : St} {H : Hp} {s : Shared} {Q : VK} {us : List Value} {vs : List V} {E' : Value → Shared → Prop} (F : FnOk X.prog X.w X.K X.mg X.base CX k f fd ps sp) (hr : Room (k + 1) X.A) (hb : Binds X.K fd ps ds) (hd : Vals dvs ds) (hx : Passes CX X.nox E)
    (I : Inv X pins σ H s) (r : Vals vs us) (h : sp (vs ++ dvs) H Q E) : wpAny (model X.prog X.w) X.A.in1 (call (.ref f) us) (EP X pins σ Q) E' s := by
  have r2 : Vals (vs ++ dvs) (us ++ ds) := r.append hd
  have hl : (us ++ ds).length = ps.length := by rw [← r2.length]; exact F.len _ _ _ _ h
  refine wpAny_call (codeAny_mono (F.run X.A.in1 X.stack s H ⟨us, []⟩ (us ++ ds) (vs ++ dvs) Q E hr.in1 I.env0.in1 (hb s us I.kIn hl) r2 h) fun r s' hq => ?_)
  cases r with
  | error e => exact False.elim (hx pins σ H s e s' (I.wish _) hq)
  | ok fl =>
    cases fl with
    | ret u => exact I.after hq
    | next => exact False.elim hq
    | brk => exact False.elim hq
    | cont => exact False.elim hq
def rLenO (C : Addr) (sp : Sp) (dvs : List V) (E : XK) : List V → Hp → VK → Prop := fun xs H Q => ∃ a dx fs, xs = [.ref a] ∧ H a = some (.ins C dx fs) ∧ sp ([.ref a] ++ dvs) H (fun v H' => ∃ n : Int, v = .int n ∧ 0 ≤ n ∧ n < 2 ^ 63 ∧ Q (.int n) H') E
theorem call_lenO (hm : Meth X.K C "__len__" f) (F : FnOk X.prog X.w X.K X.mg X.base CX k f fd ps sp) (hr : Room (k + 1) X.A) (hb : Binds X.K fd ps ds) (hd : Vals dvs ds) (hx : Passes CX X.nox E) :
    CallR X (.builtin "len") (rLenO C sp dvs E) := by
  intro pins s σ H xs us Q I r h
  obtain ⟨a, dx, fs, rfl, ea, q⟩ := h
  cases r with
  | cons rv rn =>
    cases rn
    rename_i u
    obtain rfl : u = Value.ref a := rv
    obtain ⟨mA, O, _, _, _, _⟩ := ins_get I.hok ea
    obtain ⟨od, J, _⟩ := O.look
    have go := run_in1 (us := [.ref a]) (vs := [.ref a]) (E' := X.xe) F hr hb hd hx I (.cons rfl .nil) q
    refine Calls.call_function_entry kind_len plain_len entry_len (args_len1 _) ?_
    unfold Builtin.«len»
    refine wpAny_bind (m := oneArg "len" _) (wpAny_pure ?_)
    refine wpAny_bind (m := callSpecial? (.ref a) (Str.ofString "__len__")) (PySem.W.special_fn I.kIn J hm.at_ (beq_iff_eq.mp hm.fn) (wpAny_mono go (fun r s' hr => ?_) fun _ _ y => y))
    obtain ⟨v1, H1, I1, r1, n, rfl, h0, h1, q1⟩ := hr
    obtain ⟨t, rfl⟩ : ∃ t, r = Value.int n t := r1
    refine wpAny_bind (wpAny_holding (wpAny_pure ?_))
    refine wpAny_bind (wpAny_letGo ?_)
    show wpAny _ _ (if n < 0 then _ else _) _ _ _
    rw [if_neg (by omega)]
    show wpAny _ _ (if n ≥ 2 ^ 63 then _ else _) _ _ _
    rw [if_neg (by omega)]
    exact wpAny_bind (wpAny_mkInt (wpAny_pure ⟨_, rfl, V.int n, H1, I1.tok _, ⟨_, rfl⟩, q1⟩))
def rIxO (C : Addr) (sp : Sp) (dvs : List V) (E : XK) : R2 := fun x y H Q => ∃ a dx fs, x = .ref a ∧ H a = some (.ins C dx fs) ∧ sp ([x, y] ++ dvs) H Q E
theorem pe_ixO {a b : Expr} {ta tb : TE} {pos : Pos} (hm : Meth X.K C "__getitem__" f) (hf : PySem.W.fnIn X.K f = true) (F : FnOk X.prog X.w X.K X.mg X.base CX k f fd ps sp) (hr : Room (k + 1) X.A) (hb : Binds X.K fd ps ds) (hd : Vals dvs ds) (hx : Passes CX X.nox E)
    (ha : PE X a ta) (hi : PE X b tb) (hs : ∀ v u, subscripted b true v u = runValue (.builtin "lifetime.subscript" ⟨[v, u], []⟩)) : PE X (.Subscript a b pos) (tOp (rIxO C sp dvs E) ta tb) := by
  refine ⟨fun pins s σ H Q I h => ?_⟩
  refine Subscript_ (binT ha hi I h fun v u s2 x y H2 I2 rx ry q => ?_)
  obtain ⟨p, dx, fs, rfl, ea, q⟩ := q
  obtain rfl : v = Value.ref p := rx
  obtain ⟨mA, O, _, _, _, _⟩ := ins_get I2.hok ea
  obtain ⟨od, J, _⟩ := O.look
  have go := run_in1 (us := [.ref p, u]) (vs := [.ref p, y]) (E' := X.xe) F hr hb hd hx I2 (.cons rfl (.cons ry .nil)) q
  unfold PySem.W.fnIn at hf
  split at hf
  · rename_i e
    unfold subscriptTail getitemInPython
    refine wpAny_bind (wpAny_bind (wpAny_bind (J.type.here ((PySem.W.looks_findIn I2.kIn hm.at_).here ?_))))
    dsimp only
    refine wpAny_bind (wpAny_load (I2.kIn _ _ e) (wpAny_pure ?_))
    dsimp only
    rw [hs]
    refine wpAny_bind (wpAny_runValue (codeAny_builtin PySem.W.entry_sub ?_))
    unfold Builtin.«lifetime.subscript»
    refine wpAny_bind (PySem.W.special_fn I2.kIn J hm.at_ (beq_iff_eq.mp hm.fn) (wpAny_mono go (fun v s' z => ?_) fun _ _ z => z))
    refine wpAny_pure ?_
    show wpAny (model X.prog X.w) X.A (letTemporaryGo a (.ref p) v >>= fun _ => pure v) _ X.xe s'
    exact wpAny_bind (wpAny_letTemporaryGo (wpAny_pure z))
  · cases hf
end
end L2
namespace L2
open PySem PySem.Spec PyProof.Rows
/-! ### o.m(k = v, ..) -/
section
variable {X : Cx} {CX : CXT} {k : Nat} {f C : Addr} {fd : FuncData} {ps ks : List Str} {sp : Sp} {E : XK} {o : Expr} {m : Str} {apos pos : Pos} {kws : List Keyword} {ta : TE} {tk : TA} {g : List Value → List Value → List Value} {gV : List V → List V → List V}
def tMethK0 (C : Addr) (m : Str) (sp : Sp) (gV : List V → List V → List V) (E : XK) (ta : TE) (tk : TA) : TE := fun σ H Q => ta σ H fun x H1 => ∃ a dx fs, x = .ref a ∧ H1 a = some (.ins C dx fs) ∧ fs.lookup m = none ∧ tk σ H1 fun zs H2 => sp (gV [x] zs) H2 Q E
theorem pe_methK0 {pl : Sem Bool} (he : PE X o ta) (c : Cls X.K C) (hm : Meth X.K C m f) (F : FnOk X.prog X.w X.K X.mg X.base CX k f fd ps sp) (hr : Room k X.A) (hb : KBinds X.K fd ps ks g gV) (hx : Passes CX X E) (hkw : PK X kws tk)
    (hall : (backToKw pos (keywordEach kws X.env)).all (·.1.isSome) = true := by rfl) (hks : (backToKw pos (keywordEach kws X.env)).filterMap (·.1) = ks := by rfl)
    (hpl : ((backTo pos (starEach [] X.env)).any (·.1) || (backToKw pos (keywordEach kws X.env)).any (·.1.isNone)) = false := by rfl)
    (ht : eval (.Call (.Attribute o m apos) [] kws pos) X.env = (do
      let ov ← eval o X.env
      standAt apos.atName
      let (f, first) ← holding [ov] (getMethod ov m pl)
      callWith pos f first (backTo pos (starEach [] X.env)) (backToKw pos (keywordEach kws X.env))) := by rfl) :
    PE X (.Call (.Attribute o m apos) [] kws pos) (tMethK0 C m sp gV E ta tk) := by
  refine ⟨fun pins s σ H Q I h => ?_⟩
  refine PySem.W.methodCall_KW (pl := pl) (thn (he.run pins s σ H _ I h) fun u s1 ⟨x, H1, I1, rx, a, dx, fs, ex, ea, l, q⟩ => ?_) ht
  subst ex
  obtain rfl : u = Value.ref a := rx
  refine getmeth_ok I1 ea c hm l ?_
  refine PySem.W.callWith_KW0 (first := [.ref a]) (h₀ := X.base) I.ok.mod.kin hm.kp hall (thn (hkw.run pos pins s1 σ H1 _ I1 q) fun ws s2 ⟨zs, H2, I2, rz, q2⟩ => ⟨I2.kIn, ?_⟩) hpl
  rw [hks]
  exact run_fnk (us := [.ref a]) (vs := [.ref a]) F hr hb hx I2 (.cons rfl .nil) rz q2
end
end L2

set_option Elab.async false
set_option linter.all false
set_option maxRecDepth 100000
set_option maxHeartbeats 1000000
namespace L2
open PySem PySem.Spec PyProof.Rows
/-! ### x == y by an own __eq__ that answers True or False -/
section
variable {X : Cx} {CX : CXT} {k : Nat} {f C : Addr} {fd : FuncData} {ps : List Str} {sp : Sp} {E : XK}
theorem cmpBack_of {Q : Value → Shared → Prop} {v : Value} {s : Shared} (h : v ≠ .notImplemented) (q : Q v s) : PySem.W.CmpBack Q v s := by
  cases v <;> first | exact q | exact absurd rfl h
/-- both are of that class -/
def Beside (K : PySem.W.Frag) (C : Addr) (H : Hp) (y : V) : Prop := (∃ b dy gs, y = .ref b ∧ H b = some (.ins C dy gs)) ∨ ∃ tb, TyX K H y tb ∧ PySem.W.notFirst K C tb = true
theorem Beside.looks {pins : List (Addr × Obj)} {σ : St} {H : Hp} {s : Shared} {y : V} {u : Value} (I : Inv X pins σ H s) (ry : RelV y u) (h : Beside X.K C H y) : ∃ tb, PySem.W.Looks (model X.prog X.w) s.heap (typeOf u) tb ∧ PySem.W.notFirst X.K C tb = true := by
  rcases h with ⟨b, dy, gs, rfl, eb⟩ | ⟨tb, ty, hn⟩
  · obtain rfl : u = Value.ref b := ry
    obtain ⟨mB, O', _, _, _, _⟩ := ins_get I.hok eb
    obtain ⟨od', J', _⟩ := O'.look
    exact ⟨.ref C, J'.type, by simp [PySem.W.notFirst]⟩
  · obtain ⟨Z, kx, hz, _⟩ := kit_of I ry ty
    exact ⟨tb, kx.ty _ _ I.kIn hz, hn⟩
def rEqO (K : PySem.W.Frag) (C : Addr) (sp : Sp) (E : XK) : R2 := fun x y H Q => ∃ a dx fs, x = .ref a ∧ H a = some (.ins C dx fs) ∧ Beside K C H y ∧ sp [x, y] H (fun v H' => ∃ b, v = .bl b ∧ Q (.bl b) H') E
def rNeO (K : PySem.W.Frag) (C : Addr) (sp : Sp) (E : XK) : R2 := fun x y H Q => ∃ a dx fs, x = .ref a ∧ H a = some (.ins C dx fs) ∧ Beside K C H y ∧ sp [x, y] H (fun v H' => ∃ b, v = .bl b ∧ Q (.bl (!b)) H') E
theorem op_eqO (hs : PySem.W.findIn X.K (.ref C) "__eq__" = some (some (.ref f))) (hf : PySem.W.isFn X.K (.ref f) = true) (F : FnOk X.prog X.w X.K X.mg X.base CX k f fd ps sp) (hr : Room k X.A) (hb : Binds X.K fd ps []) (hx : Passes CX X E) (hu : X.A.units < cLine) :
    OpR X (compareOp .Eq) (rEqO X.K C sp E) := by
  intro pins s σ H x y v u Q I rx ry h
  obtain ⟨a, dx, fs, rfl, ea, hy, q⟩ := h
  obtain rfl : v = Value.ref a := rx
  obtain ⟨tb, lk, hn⟩ := hy.looks I ry
  obtain ⟨mA, O, _, _, _, _⟩ := ins_get I.hok ea
  obtain ⟨od, J, _⟩ := O.look
  obtain ⟨m, hF⟩ := I.fr
  show wpAny (model X.prog X.w) X.A (richCompare .Eq (.ref a) u) (EP X pins σ Q) X.xe s
  refine PySem.W.cmp_K (op := .Eq) (tb := tb) hu hF I.ok.mod.kin J lk hn hs hf ?_
  have go := run_fn (dvs := []) (us := [.ref a, u]) (vs := [.ref a, y]) F hr hb .nil hx I (.cons rfl (.cons ry .nil)) q
  refine wpAny_mono go (fun r s' z => ?_) fun _ _ z => z
  obtain ⟨v1, H1, I1, r1, b1, rfl, q1⟩ := z
  obtain rfl : r = Value.bool b1 := r1
  exact cmpBack_of (by intro z; cases z) ⟨.bl b1, H1, I1, rfl, q1⟩
end
end L2
namespace HN
open PySem PySem.Spec PyProof.Rows PySem.SeqAt
section
variable {M : Model} {prog : Program} {w : World} {A : Around} {E : Value → Shared → Prop} {s : Shared} {K : PySem.W.Frag} {x C f : Addr} {ox : Obj} {od : Option Obj} {b : Value}
theorem entry_ne {Q : Fin → Shared → Prop} (hu : A.units < cLine) (X : K.In s.heap) (I : PySem.W.InstAt s.heap x ox C od) (hs : PySem.W.findIn K (.ref C) "__eq__" = some (some (.ref f))) (hf : PySem.W.isFn K (.ref f) = true)
    (h : wpAny (model prog w) A (call (.ref f) [.ref x, b]) (fun v s' => ∃ c, v = .bool c ∧ Q (.done (.ret (.bool (!c)))) s') E s) : wpAny (model prog w) A (Builtin.«object.__ne__» ⟨[.ref x, b], []⟩) Q E s := by
  unfold Builtin.«object.__ne__»
  repeat (first
    | with_reducible refine wpAny_cRoomFor hu ?_
    | (refine wpAny_bind (m := callSpecialIfBound? (.ref x) (Str.ofString "__eq__") [b])
        (PySem.W.ifBound_K X I hs hf (wpAny_mono h (fun r s' hr => by
          obtain ⟨c, rfl, hq⟩ := hr
          repeat (first | exact hq | exact wpAny_pure hq | exact wpAny_truthy_bool hq | (refine wpAny_bind (m := truthy (.bool _)) (wpAny_truthy_bool ?_)) | wp_step)) fun _ _ e => e)))
    | wp_step)
theorem call_objNe {Q : Value → Shared → Prop} (hu : A.in1.units < cLine) (X : K.In s.heap) (I : PySem.W.InstAt s.heap x ox C od) (hm : PySem.W.mroIn K C (.type "object") = some true) (hs : PySem.W.findIn K (.ref C) "__eq__" = some (some (.ref f))) (hf : PySem.W.isFn K (.ref f) = true)
    (h : wpAny (model prog w) A.in1 (call (.ref f) [.ref x, b]) (fun v s' => ∃ c, v = .bool c ∧ Q (.bool (!c)) s') E s) : wpAny (model prog w) A (call (.builtin "object.__ne__") [.ref x, b]) Q E s :=
  wpAny_call (codeAny_call_builtin F.cmp_object.ne.plain F.cmpEntry_ne (PySem.W.check_slot F.cmpKind_ne F.cmpSplit_ne (I.type.andThen (PySem.W.looks_mroIn X hm)) (F.cmpArgs_ne _ _) (entry_ne hu X I hs hf h)))
theorem ifBound_objNe {args : List Value} {Q : Option Value → Shared → Prop} (X : K.In s.heap) (I : PySem.W.InstAt s.heap x ox C od) (hs : PySem.W.findIn K (.ref C) "__ne__" = some (some (.builtin "object.__ne__")))
    (h : wpAny M A (call (.builtin "object.__ne__") (.ref x :: args)) (fun v => Q (some v)) E s) : wpAny M A (callSpecialIfBound? (.ref x) "__ne__" args) Q E s := by
  simp only [callSpecialIfBound?, bindSpecialIfBound?]
  refine wpAny_holding (wpAny_bind (wpAny_bind (wpAny_bind (I.type.here ((PySem.W.looks_findIn X hs).here ?_)))))
  refine wpAny_bind (wpAny_askSetting (wpAny_ite ?_))
  have fin : wpAny M A (call (.builtin "object.__ne__") ([.ref x] ++ args) >>= fun v => pure (some v)) Q E s := wpAny_bind (wpAny_mono h (fun v s' h' => wpAny_pure h') fun _ _ h' => h')
  split
  · exact wpAny_bind (wpAny_of_eq (F.cmp_object.ne.bind _) (wpAny_pure (by exact fin)))
  · exact wpAny_tryCatch (wpAny_bind (wpAny_of_eq (F.cmp_object.ne.bind _) (wpAny_pure (by exact fin))))
theorem ne_own {Q : Value → Shared → Prop} {h₀ : Heap} {L : Addr} {m : Str → Option Value} {tb : Value} (hu : A.units < cLine) (hu1 : A.in1.units < cLine) (FF : PyProof.Rows.Fr h₀ L s.heap m) (X₀ : K.In h₀) (I : PySem.W.InstAt s.heap x ox C od)
    (hb : PySem.W.Looks (model prog w) s.heap (typeOf b) tb) (hn : PySem.W.notFirst K C tb = true) (hm : PySem.W.mroIn K C (.type "object") = some true)
    (hs : PySem.W.findIn K (.ref C) "__eq__" = some (some (.ref f))) (hs2 : PySem.W.findIn K (.ref C) "__ne__" = some (some (.builtin "object.__ne__"))) (hf : PySem.W.isFn K (.ref f) = true)
    (h : wpAny (model prog w) A.in1 (call (.ref f) [.ref x, b]) (fun v s' => ∃ c, v = .bool c ∧ Q (.bool (!c)) s') E s) : wpAny (model prog w) A (richCompare .NotEq (.ref x) b) Q E s := by
  have X := X₀.keeps FF.keep
  have one : wpAny (model prog w) A (tryCompare (.ref x) (cmpInfo .NotEq).2.1 b) (fun r s' => ∃ v, r = some v ∧ Q v s') E s := by
    rw [cmpInfo_NotEq]
    unfold tryCompare
    refine wpAny_bind (ifBound_objNe X I hs2 (call_objNe hu1 X I hm hs hf (wpAny_mono h (fun v s' hv => ?_) fun _ _ e => e)))
    obtain ⟨c, rfl, hq⟩ := hv
    exact ⟨c, rfl, wpAny_pure ⟨_, rfl, hq⟩⟩
  unfold richCompare
  simp only [oneThing_ref]
  refine wpAny_holding (wpAny_bind (wpAny_cRoomFor hu ?_))
  refine wpAny_bind (I.type.here (wpAny_bind (hb.here ?_)))
  split
  · rename_i q
    have e : PySem.W.subIn K tb (.ref C) = some false := by
      rcases Bool.or_eq_true_iff.mp hn with e | e
      · rw [beq_iff_eq.mp e] at q; simp at q
      · exact beq_iff_eq.mp e
    refine wpAny_bind ((PySem.W.looks_subIn X e).here ?_)
    simp only [Bool.false_eq_true, if_false]
    refine wpAny_bind (wpAny_mono one (fun r s' z => ?_) fun _ _ e => e)
    obtain ⟨v, rfl, hq⟩ := z
    exact wpAny_pure hq
  · refine wpAny_bind (wpAny_pure ?_)
    simp only [Bool.false_eq_true, if_false]
    refine wpAny_bind (wpAny_mono one (fun r s' z => ?_) fun _ _ e => e)
    obtain ⟨v, rfl, hq⟩ := z
    exact wpAny_pure hq
end
end HN
namespace L2
open PySem PySem.Spec PyProof.Rows
section
variable {X : Cx} {CX : CXT} {k : Nat} {f C : Addr} {fd : FuncData} {ps : List Str} {sp : Sp} {E : XK}
/-- x != y, where there is no own __ne__ -/
theorem op_neO (hm : PySem.W.mroIn X.K C (.type "object") = some true) (hs : PySem.W.findIn X.K (.ref C) "__eq__" = some (some (.ref f))) (hs2 : PySem.W.findIn X.K (.ref C) "__ne__" = some (some (.builtin "object.__ne__"))) (hf : PySem.W.isFn X.K (.ref f) = true)
    (F : FnOk X.prog X.w X.K X.mg X.base CX k f fd ps sp) (hr : Room (k + 1) X.A) (hb : Binds X.K fd ps []) (hx : Passes CX X.nox E) (hu : X.A.units < cLine) (hu1 : X.A.in1.units < cLine) :
    OpR X (compareOp .NotEq) (rNeO X.K C sp E) := by
  intro pins s σ H x y v u Q I rx ry h
  obtain ⟨a, dx, fs, rfl, ea, hy, q⟩ := h
  obtain rfl : v = Value.ref a := rx
  obtain ⟨tb, lk, hn⟩ := hy.looks I ry
  obtain ⟨mA, O, _, _, _, _⟩ := ins_get I.hok ea
  obtain ⟨od, J, _⟩ := O.look
  obtain ⟨m, hF⟩ := I.fr
  show wpAny (model X.prog X.w) X.A (richCompare .NotEq (.ref a) u) (EP X pins σ Q) X.xe s
  have go := run_in1 (dvs := []) (ds := []) (us := [.ref a, u]) (vs := [.ref a, y]) (E' := X.xe) F hr hb .nil hx I (.cons rfl (.cons ry .nil)) q
  refine HN.ne_own hu hu1 hF I.ok.mod.kin J lk hn hm hs hs2 hf (wpAny_mono go (fun r s' z => ?_) fun _ _ z => z)
  obtain ⟨v1, H1, I1, r1, b1, rfl, q1⟩ := z
  obtain rfl : r = Value.bool b1 := r1
  exact ⟨b1, rfl, .bl (!b1), H1, I1, rfl, q1⟩
end
end L2

set_option Elab.async false
set_option linter.all false
set_option maxRecDepth 100000
set_option maxHeartbeats 1000000
namespace Vf
open PySem PySem.Spec PyProof.Rows L2 L2.Vx Vs Vm Vd
abbrev sLLen : Stmt := inClass clsL 4
abbrev sLBool : Stmt := inClass clsL 5
abbrev sLEq : Stmt := inClass clsL 6
/-! ### len, bool, == of languages -/
theorem if_tr {A B : Prop} {c : Bool} (e : c = true) (h : A) : if c = true then A else B := by
  rw [e]
  exact h
theorem nats_plain (ns : List Nat) : plainD (natsT ns) = true := by
  show plainDs _ = true
  refine plainAll_of fun d hd => ?_
  obtain ⟨n, _, rfl⟩ := List.mem_map.mp hd
  simp [plainD]
theorem rows_plain (rows : List (List Nat)) : plainD (rowsT rows) = true := by
  show plainDs _ = true
  refine plainAll_of fun d hd => ?_
  obtain ⟨r, _, rfl⟩ := List.mem_map.mp hd
  exact nats_plain r
theorem nats_depth (ns : List Nat) : (natsT ns).depth ≤ 1 := by
  have h : ∀ l : List Nat, PyData.depthAll (l.map fun n => PyData.int (n : Nat)) = 0 := fun l => by
    induction l with
    | nil => rfl
    | cons p r ih => simp only [List.map, PyData.depthAll, PyData.depth, ih, Nat.max_self]
  unfold natsT
  simp only [PyData.depth, h]
  omega
theorem rows_depth (rows : List (List Nat)) : (rowsT rows).depth ≤ 2 := by
  have h : ∀ l : List (List Nat), PyData.depthAll (l.map natsT) ≤ 1 := fun l => by
    induction l with
    | nil => exact Nat.zero_le _
    | cons p r ih =>
      rw [List.map_cons]
      simp only [PyData.depthAll]
      exact Nat.max_le.mpr ⟨nats_depth p, ih⟩
  have := h rows
  unfold rowsT
  simp only [PyData.depth]
  omega
theorem nats_shaped (ns : List Nat) : SeqAt.shaped (natsT ns) = true := by
  show (PyData.canLay0 _ && decide (_ ≤ 64)) = true
  rw [lay_plain _ (nats_plain ns), Bool.true_and]
  have := nats_depth ns
  exact decide_eq_true (by omega)
theorem rows_shaped (rows : List (List Nat)) : SeqAt.shaped (rowsT rows) = true := by
  show (PyData.canLay0 _ && decide (_ ≤ 64)) = true
  rw [lay_plain _ (rows_plain rows), Bool.true_and]
  have := rows_depth rows
  exact decide_eq_true (by omega)
theorem natsT_inj {a b : List Nat} (h : natsT a = natsT b) : a = b := by
  have e := PyData.tuple.inj h
  have : (fun n : Nat => PyData.int (n : Nat)).Injective ∨ True := .inr trivial
  induction a generalizing b with
  | nil => cases b with
    | nil => rfl
    | cons _ _ => cases e
  | cons x r ih => cases b with
    | nil => cases e
    | cons y s =>
      obtain ⟨e1, e2⟩ := List.cons.inj e
      have e3 : (x : Int) = (y : Int) := PyData.int.inj e1
      rw [ih (b := s) (congrArg PyData.tuple e2) e2, Int.ofNat.inj e3]
theorem rowsT_inj {a b : List (List Nat)} (h : rowsT a = rowsT b) : a = b := by
  have e := PyData.tuple.inj h
  induction a generalizing b with
  | nil => cases b with
    | nil => rfl
    | cons _ _ => cases e
  | cons x r ih => cases b with
    | nil => cases e
    | cons y s =>
      obtain ⟨e1, e2⟩ := List.cons.inj e
      rw [ih (b := s) (congrArg PyData.tuple e2) e2, natsT_inj e1]
theorem nats_eqv (a b : List Nat) : PyData.eqv (natsT a) (natsT b) = decide (a = b) := by
  by_cases c : a = b
  · subst c
    rw [decide_eq_true rfl]
    exact SeqAt.eqv_refl _ (lay_plain _ (nats_plain a))
  · rw [decide_eq_false c]
    exact Bool.eq_false_iff.mpr fun e => c (natsT_inj (eqv_plain _ _ (nats_plain a) (nats_plain b) e))
theorem rows_eqv (a b : List (List Nat)) : PyData.eqv (rowsT a) (rowsT b) = decide (a = b) := by
  by_cases c : a = b
  · subst c
    rw [decide_eq_true rfl]
    exact SeqAt.eqv_refl _ (lay_plain _ (rows_plain a))
  · rw [decide_eq_false c]
    exact Bool.eq_false_iff.mpr fun e => c (rowsT_inj (eqv_plain _ _ (rows_plain a) (rows_plain b) e))
structure TxtLq (K : PySem.W.Frag) (mg : Str → Option Value) (C : Addr) : Prop extends TxtLg K mg C where
  isi : mg "isinstance" = none
  gL : mg "Language" = some (.ref C)
  own : PySem.W.kitOne K (.ref C) (.ref C) = some true
  ha : PySem.W.findIn K (.ref C) "__class__" = some (some (.builtin "object.__class__"))
  hn : PySem.W.specialIn K (.builtin "object.__class__") "__get__" = some (some (.builtin "getset_descriptor.__get__"))
  htk : PySem.W.takesIn K (.builtin "object.__class__") = some true
  hm : PySem.W.mroIn K C (.type "object") = some true
def spLLen (C : Addr) : Sp := fun vs H Q _ => ∃ (p : Addr) (a : Str) (rows : List (List Nat)) (ends : List Nat), vs = [.ref p] ∧ LangL C H p a rows ends ∧ Q (.int (rows.length : Nat)) H
def spLBool : Sp := fun vs H Q _ => ∃ v, vs = [v] ∧ Q (.bl true) H
def spLEq (K : PySem.W.Frag) (C : Addr) : Sp := fun vs H Q _ => ∃ (p : Addr) (a : Str) (rows : List (List Nat)) (ends : List Nat) (v : V), vs = [.ref p, v] ∧ LangL C H p a rows ends ∧
  ((∃ (q : Addr) (a' : Str) (rows' : List (List Nat)) (ends' : List Nat), v = .ref q ∧ LangL C H q a' rows' ends' ∧ Q (.bl (decide (a = a') && (decide (rows = rows') && decide (ends = ends')))) H) ∨
   (∃ t, TyX K H v t ∧ PySem.W.kitOne K t (.ref C) = some false ∧ Q (.bl false) H))
section
variable {P : Program} {w : World} {K : PySem.W.Frag} {mg : Str → Option Value} {base : Heap} {C : Addr}
theorem scLLen : FnScope ["self"] ["self"] (defScope sLLen) := ⟨rfl, rfl, rfl, by decide +kernel, rfl, by decide +kernel, by decide +kernel⟩
theorem scLBool : FnScope ["self"] ["self"] (defScope sLBool) := ⟨rfl, rfl, rfl, by decide +kernel, rfl, by decide +kernel, by decide +kernel⟩
theorem scLEq : FnScope ["self", "other"] ["self", "other"] (defScope sLEq) := ⟨rfl, rfl, rfl, by decide +kernel, rfl, by decide +kernel, by decide +kernel⟩
theorem ok_llen {f : Addr} {fd : FuncData} (F : Fun K "__len__" "Language.__len__" sLLen f fd) (T : TxtLg K mg C) : FnOk P w K mg base CX0 1 f fd ["self"] (spLLen C) := by
  refine F.ok scLLen (fun vs H Q E h => ?_) (fun cdv A outer s H vs Q E hr h => ?_)
  · obtain ⟨p, a, rows, ends, rfl, _⟩ := h
    rfl
  obtain ⟨p, a, rows, ends, rfl, ⟨dx, vr, ve, h1, ⟨ra, rbs, rfl, h2, h3, h4⟩, h5⟩, q⟩ := h
  refine ⟨_, (pss_one (ps_ret (pe_callB call_len_seq (by rfl) T.len PySem.boot_len (pa_cons (pe_fld (pv 0) rfl) pa_nil)))), ?_⟩
  refine ⟨_, rfl, p, C, dx, _, _, rfl, h1, T.cl, T.nR, rfl, ra, rbs, rfl, .inr (SqT.of h2), ?_⟩
  rw [h3]
  exact q
theorem ok_lbool {f : Addr} {fd : FuncData} (F : Fun K "__bool__" "Language.__bool__" sLBool f fd) : FnOk P w K mg base CX0 1 f fd ["self"] spLBool := by
  refine F.ok scLBool (fun vs H Q E h => ?_) (fun cdv A outer s H vs Q E hr h => ?_)
  · obtain ⟨v, rfl, _⟩ := h
    rfl
  obtain ⟨v, rfl, q⟩ := h
  exact ⟨_, pss_one (ps_ret pe_bl), q⟩
theorem ok_leq {f : Addr} {fd : FuncData} (F : Fun K "__eq__" "Language.__eq__" sLEq f fd) (T : TxtLq K mg C) : FnOk P w K mg base CX0 1 f fd ["self", "other"] (spLEq K C) := by
  refine F.ok scLEq (fun vs H Q E h => ?_) (fun cdv A outer s H vs Q E hr h => ?_)
  · obtain ⟨p, a, rows, ends, v, rfl, _⟩ := h
    rfl
  obtain ⟨p, a, rows, ends, v, rfl, hp, hq⟩ := h
  have hu := hu_of hr
  have hu64 : (A.deeper (envOfC "Language.__eq__" (defScope sLEq) s.heap.objs.size f cdv)).units + 64 < cLine := by
    have z := hr.un
    omega
  refine ⟨_, (pss_one (ps_ret (pe_and (pe_callB call_isi (by rfl) T.isi (by decide +kernel) (pa_cons (pv 1) (pa_cons (pe_glob (v := .ref C) rfl T.gL rfl) pa_nil))) (pe_and (pe_cmpR op_eq (pe_fld (pv 0) rfl) (pe_fld (pv 1) rfl) (nomark _)) (pe_and (pe_cmpR (op_eqD hu64) (pe_fld (pv 0) rfl) (pe_fld (pv 1) rfl) (nomark _)) (pe_one (pe_cmpR (op_eqD hu64) (pe_fld (pv 0) rfl) (pe_fld (pv 1) rfl) (nomark _)))))))), ?_⟩
  rcases hq with ⟨q, a', rows', ends', rfl, hq, k⟩ | ⟨t, ty, e, k⟩
  · obtain ⟨dx, vr, ve, h1, h2, h3⟩ := hp
    obtain ⟨dy, wr, we, g1, g2, g3⟩ := hq
    refine ⟨_, rfl, _, _, _, _, _, rfl, .own _, .base (.ins g1 T.cl T.ha T.hn T.htk T.hm), T.own, ?_⟩
    refine ⟨_, rfl, if_tr rfl ?_⟩
    refine ⟨_, rfl, p, C, dx, _, _, rfl, h1, T.cl, T.nL, rfl, _, rfl, q, C, dy, _, _, rfl, g1, T.cl, T.nL, rfl, rfl, ?_⟩
    refine ⟨_, rfl, ?_⟩
    have e1 : decide (V.str a = V.str a') = decide (a = a') := decide_eq_decide.mpr ⟨fun h => V.str.inj h, fun h => by rw [h]⟩
    rw [e1]
    by_cases c1 : a = a'
    rotate_left
    · rw [decide_eq_false c1] at k ⊢
      exact if_fl rfl k
    rw [decide_eq_true c1] at k ⊢
    rw [Bool.true_and] at k
    refine if_tr rfl ?_
    have p1 : Dp K H vr (rowsT rows) := dt_dp h2.dt (rows_plain rows)
    have p2 : Dp K H wr (rowsT rows') := dt_dp g2.dt (rows_plain rows')
    have p3 : Dp K H ve (natsT ends) := dt_dp h3.dt (nats_plain ends)
    have p4 : Dp K H we (natsT ends') := dt_dp g3.dt (nats_plain ends')
    refine ⟨_, rfl, p, C, dx, _, _, rfl, h1, T.cl, T.nR, rfl, _, rfl, q, C, dy, _, _, rfl, g1, T.cl, T.nR, rfl, _, _, p1, p2, rows_shaped _, rows_shaped _, ?_⟩
    refine ⟨_, rfl, ?_⟩
    rw [rows_eqv]
    by_cases c2 : rows = rows'
    rotate_left
    · rw [decide_eq_false c2] at k ⊢
      exact if_fl rfl k
    rw [decide_eq_true c2] at k ⊢
    rw [Bool.true_and] at k
    refine if_tr rfl ?_
    refine ⟨_, rfl, p, C, dx, _, _, rfl, h1, T.cl, T.nE, rfl, _, rfl, q, C, dy, _, _, rfl, g1, T.cl, T.nE, rfl, _, _, p3, p4, nats_shaped _, nats_shaped _, ?_⟩
    rw [nats_eqv]
    exact k
  · refine ⟨_, rfl, _, _, _, _, _, rfl, .own _, ty, e, ⟨_, rfl, if_fl rfl k⟩⟩
end
end Vf

set_option Elab.async false
set_option linter.all false
set_option maxRecDepth 100000
set_option maxHeartbeats 2000000
namespace Vf
open PySem PySem.Spec PyProof.Rows L2 L2.Vx Vs
/-! ### side_by_side -/
abbrev sSide : Stmt := top 19
abbrev nSide : List Str := ["rows", "others", "pairs", "numbers", "new_rows", "at", "one", "other", "row", "pair"]
structure TxtSd (mg : Str → Option Value) : Prop where
  len : mg "len" = none
  zip : mg "zip" = none
  tuple : mg "tuple" = none
def NPairs (H : Hp) (bs : List V) (ps : List (Nat × Nat)) : Prop := bs.length = ps.length ∧ ∀ (i : Nat) (b : V) (p : Nat × Nat), bs[i]? = some b → ps[i]? = some p → ∃ q, b = .ref q ∧ H q = some (.tup [nI p.1, nI p.2])
theorem NPairs.tk {H H' : Hp} {bs : List V} {ps : List (Nat × Nat)} (h : NPairs H bs ps) (s : TK H H') : NPairs H' bs ps := ⟨h.1, fun i b p e1 e2 => (h.2 i b p e1 e2).imp fun q z => ⟨z.1, s _ _ z.2⟩⟩
theorem NPairs.snoc {H : Hp} {bs : List V} {ps : List (Nat × Nat)} {q : Addr} {p : Nat × Nat} (h : NPairs H bs ps) (hq : H q = some (.tup [nI p.1, nI p.2])) : NPairs H (bs ++ [.ref q]) (ps ++ [p]) := by
  refine ⟨by rw [List.length_append, List.length_append, h.1]; rfl, fun i b p' e1 e2 => ?_⟩
  rcases Nat.lt_trichotomy i bs.length with c | c | c
  · rw [List.getElem?_append_left c] at e1
    rw [List.getElem?_append_left (by rw [← h.1]; exact c)] at e2
    exact h.2 i b p' e1 e2
  · subst c
    have e1' : some (V.ref q) = some b := by simpa using e1
    have e2' : some p = some p' := by rw [h.1] at e2; simpa using e2
    obtain rfl := Option.some.inj e1'
    obtain rfl := Option.some.inj e2'
    exact ⟨q, rfl, hq⟩
  · have := (List.getElem?_eq_some_iff.mp e1).1
    rw [List.length_append] at this
    have : ([V.ref q] : List V).length = 1 := rfl
    omega
theorem NPairs.get {H : Hp} {bs : List V} {ps : List (Nat × Nat)} (h : NPairs H bs ps) {i : Nat} {p : Nat × Nat} (hp : ps[i]? = some p) : ∃ q : Addr, bs[i]? = some (.ref q) ∧ H q = some (.tup [nI p.1, nI p.2]) := by
  have hi := (List.getElem?_eq_some_iff.mp hp).1
  have hb : bs[i]? = some (bs[i]'(by rw [h.1]; exact hi)) := List.getElem?_eq_getElem _
  obtain ⟨q, e1, e2⟩ := h.2 i _ p hb hp
  exact ⟨q, by rw [hb, e1], e2⟩
def PairsAt (H : Hp) (l : Addr) (ps : List (Nat × Nat)) : Prop := ∃ bs, H l = some (.lst bs) ∧ NPairs H bs ps
def spSide : Sp := fun vs H Q _ => ∃ (v1 v2 : V) (A B : List (List Nat)) (k : Nat), vs = [v1, v2] ∧ MRowsAt H v1 A ∧ MRowsAt H v2 B ∧ Square A k ∧ Square B k ∧ A.length * B.length ≤ 1000 ∧
  ∀ (t l : Addr) (vr : V) (ps : List (Nat × Nat)) (R : List (List Nat)) H', Same H H' → H' t = some (.tup [vr, .ref l]) → MRowsAt H' vr R → PairsAt H' l ps → Side A B k ps R → R.length = ps.length → Q (.ref t) H'
section
variable {P : Program} {w : World} {K : PySem.W.Frag} {mg : Str → Option Value} {base : Heap}
theorem scSide : FnScope nSide ["rows", "others"] (defScope sSide) := ⟨rfl, rfl, rfl, by decide +kernel, rfl, by decide +kernel, by decide +kernel⟩
theorem ok_side {f : Addr} {fd : FuncData} (F : Fun K "side_by_side" "side_by_side" sSide f fd) (T : TxtSd mg) : FnOk P w K mg base CX0 1 f fd ["rows", "others"] spSide := by
  refine F.ok scSide (fun vs H Q E h => ?_) (fun cdv Ar outer s H vs Q E hr h => ?_)
  · obtain ⟨v1, v2, A, B, k, rfl, _⟩ := h
    rfl
  obtain ⟨v1, v2, A, B, k, rfl, hRA, hRB, sA, sB, few, q⟩ := h
  have hu := hu_of hr
  refine ⟨_, (pss_cons (ps_set (i := 2) scSide.nd rfl (Or.inl rfl) (pe_lst (pa_cons (pe_tup (pa_cons pe_int (pa_cons pe_int pa_nil))) pa_nil)))
    (pss_cons (ps_set (i := 3) scSide.nd rfl (Or.inl rfl) (pe_dispT (Nat.lt_of_succ_lt hu) (pe_tup (pa_cons pe_int (pa_cons pe_int pa_nil))) pe_int))
    (pss_cons (ps_set (i := 4) scSide.nd rfl (Or.inl rfl) (pe_lst pa_nil))
    (pss_cons (ps_set (i := 5) scSide.nd rfl (Or.inl rfl) pe_int)
    (pss_cons (ps_while PassesOwn.never (pt_cmpR op_lt (pv 5) (pe_callB call_len_seq (by rfl) T.len PySem.boot_len (pa_cons (pv 2) pa_nil)) (nomark _))
      (pss_cons (ps_asg (pe_ix ix_list (pv 2) (pv 5) (fun _ _ => rfl)) (pg_tup rfl (pgs_cons (pg_name (i := 6) scSide.nd rfl (Or.inl rfl)) (pgs_cons (pg_name (i := 7) scSide.nd rfl (Or.inl rfl)) pgs_nil))))
      (pss_cons (ps_set (i := 8) scSide.nd rfl (Or.inl rfl) (pe_lst pa_nil))
      (pss_cons (ps_for PassesOwn.never rfl (RZ.pi_zipV (by rfl) T.zip (pa_cons (pe_ix ix_tup (pv 0) (pv 6) (fun _ _ => rfl)) (pa_cons (pe_ix ix_tup (pv 1) (pv 7) (fun _ _ => rfl)) pa_nil))) (pg_name (i := 9) scSide.nd rfl (Or.inl rfl))
        (C8.pss_cut (ps_if (pt_cmp (pc_dnotin hu (pv 9) (pv 3))) (pss_cons (ps_dput hu (pv 3) (pv 9) (pe_callB call_len_seq (by rfl) T.len PySem.boot_len (pa_cons (pv 2) pa_nil)) rfl) (pss_one (ps_expr (pe_bm PySem.F.plainAttrs_list PySem.F.slot_list_append PySem.F.type_list_append mt_append (pv 2) (pa_cons (pv 9) pa_nil))))) pss_nil)
        (pss_one (ps_expr (pe_bm PySem.F.plainAttrs_list PySem.F.slot_list_append PySem.F.type_list_append mt_append (pv 8) (pa_cons (pe_dget hu (pv 3) (pv 9) (fun _ _ => rfl)) pa_nil))))))
      (pss_cons (ps_expr (pe_bm PySem.F.plainAttrs_list PySem.F.slot_list_append PySem.F.type_list_append mt_append (pv 4) (pa_cons (pe_callTy call_tuple_of (by rfl) T.tuple (by decide +kernel) (pa_cons (pv 8) pa_nil)) pa_nil)))
      (pss_one (ps_aug (i := 5) scSide.nd rfl (Or.inl rfl) pe_int ip_add)))))))
    (pss_one (ps_ret (pe_tup (pa_cons (pe_callTy call_tuple_of (by rfl) T.tuple (by decide +kernel) (pa_cons (pv 4) pa_nil)) (pa_cons (pv 2) pa_nil)))))))))), ?_⟩
  obtain ⟨ra, rbs, rfl, hra, hNA⟩ := hRA.at_
  obtain ⟨oa, obs, rfl, hoa, hNB⟩ := hRB.at_
  have n1 := sA.some
  have n2 := sB.some
  have thin := sA.thin
  refine ⟨(by show 2 ≤ sizeLine; decide), fun t0 ht0 => ⟨(by show 1 ≤ sizeLine; decide), fun lp hlp => ?_⟩⟩
  refine fun D hD => ⟨(by show 2 ≤ sizeLine; decide), fun t1 ht1 => ⟨[.inl 0, .inl 0], t1, ?_, rfl, upd_same, ?_⟩⟩
  · rw [upd_ne (ne_of_none (show upd _ D (.dT []) D = some (.dT []) from upd_same) ht1)]
    exact upd_same
  refine ⟨Nat.zero_le _, fun lr hlr => ?_⟩
  have z1 := same_new ht0 (.tup [V.int 0, V.int 0])
  have z2 := same_new hlp (.lst [V.ref t0])
  have z3 := same_new hD (.dT [])
  have z4 := same_new ht1 (.tup [V.int 0, V.int 0])
  have hlpH : H lp = none := z1.free hlp
  have hDH : H D = none := (z1.trans z2).free hD
  have hpD : lp ≠ D := ne_of_none (show upd _ lp (.lst [V.ref t0]) lp = some (.lst [V.ref t0]) from upd_same) hD
  obtain ⟨H0, eH0⟩ : ∃ H0, H0 = upd (upd (upd (upd H t0 (.tup [V.int 0, V.int 0])) lp (.lst [V.ref t0])) D (.dT [])) t1 (.tup [V.int 0, V.int 0]) := ⟨_, rfl⟩
  have f1 : upd H0 D (.dT [([.inl 0, .inl 0], V.int 0)]) lp = some (.lst [V.ref t0]) := by
    rw [upd_ne hpD, eH0]
    exact z4 _ _ (z3 _ _ upd_same)
  have f2 : upd H0 D (.dT [([.inl 0, .inl 0], V.int 0)]) D = some (.dT (entN [(0, 0)])) := upd_same
  have f3 : upd H0 D (.dT [([.inl 0, .inl 0], V.int 0)]) t0 = some (.tup [nI 0, nI 0]) := by
    rw [upd_ne (ne_of_none (z2 _ _ (show upd H t0 (.tup [V.int 0, V.int 0]) t0 = _ from upd_same)) hD), eH0]
    exact z4 _ _ (z3 _ _ (z2 _ _ upd_same))
  have sm : Same H (upd H0 D (.dT [([.inl 0, .inl 0], V.int 0)])) := fun b o e => by
    rw [upd_ne (ne_of_none e hDH), eH0]
    exact z4 _ _ (z3 _ _ (z2 _ _ (z1 _ _ e)))
  rw [← eH0] at hlr ⊢
  show tSeq _ _ _ [some (V.ref ra), some (V.ref oa), some (V.ref lp), some (V.ref D), some (V.ref lr), none, none, none, none, none] _
  generalize upd H0 D (.dT [([.inl 0, .inl 0], V.int 0)]) = H1 at f1 f2 f3 sm hlr ⊢
  clear z1 z2 z3 z4 ht0 ht1 hD hlp eH0
  have s1 := same_new hlr (.lst [])
  have hlrH : H lr = none := sm.free hlr
  have hpr : lp ≠ lr := ne_of_none f1 hlr
  have hDr : D ≠ lr := ne_of_none f2 hlr
  have f1' := s1 _ _ f1
  have f2' := s1 _ _ f2
  have f3' := s1 _ _ f3
  have f4 : upd H1 lr (.lst []) lr = some (.lst []) := upd_same
  have sm' := sm.trans s1
  generalize upd H1 lr (.lst []) = H2 at f1' f2' f3' f4 sm' ⊢
  clear f1 f2 f3 sm hlr s1
  have putP : ∀ {H2 : Hp} {o : HO}, Same H H2 → Same H (upd H2 lp o) := fun s b o e => by
    rw [upd_ne (ne_of_none e hlpH)]
    exact s b o e
  have putD : ∀ {H2 : Hp} {o : HO}, Same H H2 → Same H (upd H2 D o) := fun s b o e => by
    rw [upd_ne (ne_of_none e hDH)]
    exact s b o e
  have putR : ∀ {H2 : Hp} {o : HO}, Same H H2 → Same H (upd H2 lr o) := fun s b o e => by
    rw [upd_ne (ne_of_none e hlrH)]
    exact s b o e
  have np0 : NPairs H2 [V.ref t0] [(0, 0)] := by
    refine ⟨rfl, fun i b p e1 e2 => ?_⟩
    cases i with
    | zero =>
      obtain rfl := Option.some.inj e1
      obtain rfl := Option.some.inj e2
      exact ⟨t0, rfl, f3'⟩
    | succ i => simp at e1
  obtain ⟨W, hW⟩ : ∃ W : Nat → L2.St → Hp → Prop, W = fun m σ H' => ∃ (ps : List (Nat × Nat)) (R : List (List Nat)) (bs rs : List V) (v6 v7 v8 v9 : Option V), σ = [some (V.ref ra), some (V.ref oa), some (V.ref lp), some (V.ref D), some (V.ref lr), some (nI R.length), v6, v7, v8, v9] ∧ m = A.length * B.length - R.length ∧
    H' lp = some (.lst bs) ∧ NPairs H' bs ps ∧ H' D = some (.dT (entN ps)) ∧ H' lr = some (.lst rs) ∧ NRows H' rs R ∧ Side A B k ps R ∧ Same H H' := ⟨_, rfl⟩
  refine ⟨W, ⟨_, by rw [hW]; exact ⟨[(0, 0)], [], [V.ref t0], [], none, none, none, none, rfl, rfl, f1', np0, f2', f4, NRows.nil _, side_start n1 n2, sm'⟩⟩, ?_⟩
  clear np0 f1' f2' f3' f4 sm' H2 H1 H0
  intro m σ H2 hw
  rw [hW] at hw
  obtain ⟨ps, R, bs, rs, v6, v7, v8, v9, rfl, rfl, m1, m2, m3, m4, m5, S, s2⟩ := hw
  have pl := S.few
  refine ⟨_, rfl, _, rfl, lp, _, rfl, .inl (SqL.of m1), _, _, rfl, rfl, _, rfl, ?_⟩
  rw [m2.1]
  by_cases c : R.length < ps.length
  rotate_left
  · refine if_fl (by simpa using c) ?_
    have fe : R.length = ps.length := Nat.le_antisymm S.le (Nat.le_of_not_lt c)
    refine ⟨_, rfl, lr, _, rfl, .inl ⟨SqL.of m4, fun tl htl => ?_⟩⟩
    have sl := same_new htl (.tup rs)
    refine ⟨_, rfl, (by show 2 ≤ sizeLine; decide), fun tv htv => ?_⟩
    have sv := same_new htv (.tup [.ref tl, .ref lp])
    have slv := sl.trans sv
    exact q tv lp (.ref tl) ps R _ (s2.trans slv) upd_same ((m5.tk (tk_same slv)).tup (sv _ _ upd_same)) ⟨bs, slv _ _ m1, m2.tk (tk_same slv)⟩ S fe
  refine if_tr (by simpa using c) ⟨W (A.length * B.length - (R.length + 1)), fun _ _ h => ⟨_, by omega, h⟩, ?_⟩
  obtain ⟨p, hp⟩ : ∃ p, ps[R.length]? = some p := ⟨_, List.getElem?_eq_getElem c⟩
  obtain ⟨pq, hpq1, hpq2⟩ := m2.get hp
  obtain ⟨lt1, lt2⟩ := S.lt p (List.mem_of_getElem? hp)
  refine ⟨_, rfl, _, rfl, lp, _, _, .ref pq, rfl, rfl, SqL.of m1, atI_nat hpq1, pq, _, rfl, SqT.of hpq2, rfl, _, _, rfl, _, _, rfl, rfl, ?_⟩
  refine ⟨Nat.zero_le _, fun lw hlw => ?_⟩
  have sw := same_new hlw (.lst [])
  have hlwH : H lw = none := s2.free hlw
  have hpw : lp ≠ lw := ne_of_none m1 hlw
  have hDw : D ≠ lw := ne_of_none m3 hlw
  have hrw : lr ≠ lw := ne_of_none m4 hlw
  have putW : ∀ {H2 : Hp} {o : HO}, Same H H2 → Same H (upd H2 lw o) := fun s b o e => by
    rw [upd_ne (ne_of_none e hlwH)]
    exact s b o e
  obtain ⟨b1, hb1, hb2⟩ := hNA.get lt1
  obtain ⟨b2, hb3, hb4⟩ := hNB.get lt2
  have w1 := width sA lt1
  have w2 := width sB lt2
  have m1w := sw _ _ m1
  have m3w := sw _ _ m3
  have m4w := sw _ _ m4
  have m2w := m2.tk (tk_same sw)
  have m5w := m5.tk (tk_same sw)
  have s2w := s2.trans sw
  have ew : upd H2 lw (.lst []) lw = some (.lst []) := upd_same
  generalize upd H2 lw (.lst []) = H3 at m1w m2w m3w m4w m5w s2w ew ⊢
  clear hpq2 m1 m2 m3 m4 m5 s2 hlw sw H2
  refine ⟨_, rfl, _, rfl, ra, rbs, _, .ref b1, rfl, rfl, SqT.of (s2w _ _ hra), atI_nat hb1, _, rfl, _, rfl, oa, obs, _, .ref b2, rfl, rfl, SqT.of (s2w _ _ hoa), atI_nat hb3, b1, b2, _, _, rfl, SqT.of (s2w _ _ hb2), SqT.of (s2w _ _ hb4), ?_⟩
  refine for_it (walk_zipT (n := k) (by rw [List.length_map, List.length_map, w1, w2, Nat.min_self])) (fun a σ H' => ∃ (ps' : List (Nat × Nat)) (bs' : List V) (r : List Nat) (v9 : Option V), σ = [some (V.ref ra), some (V.ref oa), some (V.ref lp), some (V.ref D), some (V.ref lr), some (nI R.length), some (nI p.1), some (nI p.2), some (V.ref lw), v9] ∧
      H' lp = some (.lst bs') ∧ NPairs H' bs' ps' ∧ H' D = some (.dT (entN ps')) ∧ H' lr = some (.lst rs) ∧ NRows H' rs R ∧ H' lw = some (.lst (r.map nI)) ∧ r.length = a ∧ Side A B k ps' R ∧ ps'[R.length]? = some p ∧ (∀ x, x < a → ∃ j, r[x]? = some j ∧ ps'[j]? = some (nextOf A x p.1, nextOf B x p.2)) ∧ Same H H')
    ⟨ps, bs, [], v9, rfl, m1w, m2w, m3w, m4w, m5w, ew, rfl, S, hp, (fun x h => absurd h (Nat.not_lt_zero x)), s2w⟩ (fun a σ H' _ ⟨_, _, _, _, _, _, _, _, _, _, _, _, _, _, _, s⟩ => ⟨SqT.of (s _ _ hb2), SqT.of (s _ _ hb4)⟩) ?_ ?_
  · clear m1w m2w m3w m4w m5w ew S hp s2w
    rintro a x σ H5 H6 ha ⟨ps', bs', r, v9, rfl, u1, u2, u3, u4, u5, u6, u7, S, hp, u8, s5⟩ ⟨T3, x1, y1, rfl, hT, rfl, e1', e2'⟩
    have widA : ∀ r ∈ A, a < r.length := fun r hr => by rw [sA.wide r hr]; exact ha
    have widB : ∀ r ∈ B, a < r.length := fun r hr => by rw [sB.wide r hr]; exact ha
    have e3 : ((rowOf A p.1).map nI)[a]? = some x1 := e1'
    have e4 : ((rowOf B p.2).map nI)[a]? = some y1 := e2'
    rw [List.getElem?_map, next_at lt1 widA] at e3
    rw [List.getElem?_map, next_at lt2 widB] at e4
    obtain rfl := Option.some.inj e3
    obtain rfl := Option.some.inj e4
    have sT := same_new hT (.tup [nI (nextOf A a p.1), nI (nextOf B a p.2)])
    have eT : upd H5 T3 (.tup [nI (nextOf A a p.1), nI (nextOf B a p.2)]) T3 = some (.tup [nI (nextOf A a p.1), nI (nextOf B a p.2)]) := upd_same
    have u1' := sT _ _ u1
    have u2' := u2.tk (tk_same sT)
    have u3' := sT _ _ u3
    have u4' := sT _ _ u4
    have u5' := u5.tk (tk_same sT)
    have u6' := sT _ _ u6
    have s6 := s5.trans sT
    generalize upd H5 T3 (.tup [nI (nextOf A a p.1), nI (nextOf B a p.2)]) = H6 at u1' u2' u3' u4' u5' u6' s6 eT ⊢
    clear u1 u2 u3 u4 u5 u6 s5 sT hT e1' e2' e3 e4 H5
    have pl' := S.few
    have n3 := next_lt sA ha lt1
    have n4 := next_lt sB ha lt2
    refine ⟨fun σ' H' => ∃ (ps2 : List (Nat × Nat)) (bs2 : List V) (j : Nat), σ' = [some (V.ref ra), some (V.ref oa), some (V.ref lp), some (V.ref D), some (V.ref lr), some (nI R.length), some (nI p.1), some (nI p.2), some (V.ref lw), some (V.ref T3)] ∧
      H' lp = some (.lst bs2) ∧ NPairs H' bs2 ps2 ∧ H' D = some (.dT (entN ps2)) ∧ H' lr = some (.lst rs) ∧ NRows H' rs R ∧ H' lw = some (.lst (r.map nI)) ∧ Side A B k ps2 R ∧ ps2[R.length]? = some p ∧ (∀ x, x < a → ∃ j, r[x]? = some j ∧ ps2[j]? = some (nextOf A x p.1, nextOf B x p.2)) ∧
      H' T3 = some (.tup [nI (nextOf A a p.1), nI (nextOf B a p.2)]) ∧ (nextOf A a p.1, nextOf B a p.2) ∈ ps2 ∧ Same H H', ?_, ?_⟩
    · refine ⟨_, rfl, _, rfl, D, _, rfl, get_pairN (p := (nextOf A a p.1, nextOf B a p.2)) u3' eT, _, rfl, ?_⟩
      by_cases c2 : (nextOf A a p.1, nextOf B a p.2) ∈ ps'
      · exact if_fl (by rw [if_pos c2]; rfl) ⟨ps', bs', 0, rfl, u1', u2', u3', u4', u5', u6', S, hp, u8, eT, c2, s6⟩
      · refine if_tr (by rw [if_neg c2]; rfl) ?_
        have dp : DPut H6 D (.ref T3) (.int (bs'.length : Nat)) (upd H6 D (.dT (entN (ps' ++ [(nextOf A a p.1, nextOf B a p.2)])))) := by
          rw [u2'.1]
          exact put_pairN (p := (nextOf A a p.1, nextOf B a p.2)) c2 u3' eT (by rw [sizeLine_eq]; omega)
        refine ⟨_, rfl, lp, _, rfl, .inl (SqL.of u1'), _, rfl, _, rfl, D, _, rfl, dp, ?_⟩
        have k1 := (upd_ne (o := .dT (entN (ps' ++ [(nextOf A a p.1, nextOf B a p.2)]))) hpD).trans u1'
        refine ⟨_, rfl, .inl ⟨rfl, _, SqL.of k1⟩, _, rfl, lp, _, _, rfl, rfl, k1, by rw [u2'.1, sizeLine_eq]; omega, ?_⟩
        have tkD := tk_dT u3' (.dT (entN (ps' ++ [(nextOf A a p.1, nextOf B a p.2)])))
        have tkP := tk_put k1 (.lst (bs' ++ [V.ref T3]))
        refine ⟨ps' ++ [(nextOf A a p.1, nextOf B a p.2)], bs' ++ [V.ref T3], 0, rfl, upd_same, (((u2'.tk tkD).snoc (p := (nextOf A a p.1, nextOf B a p.2)) (tkD _ _ eT)).tk tkP), by rw [upd_ne hpD.symm]; exact upd_same, by rw [upd_ne hpr.symm, upd_ne hDr.symm]; exact u4', (u5'.tk tkD).tk tkP, by rw [upd_ne hpw.symm, upd_ne hDw.symm]; exact u6', S.grow c2 n3 n4 (List.mem_of_getElem? hp) ha rfl, get_app hp, fun x hx => (u8 x hx).imp fun j z => ⟨z.1, get_app z.2⟩, tkP _ _ (tkD _ _ eT), by simp, putP (putD s6)⟩
    clear u1' u2' u3' u4' u5' u6' s6 eT u8 S hp pl' H6
    rintro σ4 H5 ⟨ps2, bs2, j0, rfl, u1, u2, u3, u4, u5, u6, S, hp, u8, eT, c2, s5⟩
    have g := get_pairN (p := (nextOf A a p.1, nextOf B a p.2)) u3 eT
    rw [if_pos c2] at g
    refine ⟨_, rfl, .inl ⟨rfl, _, SqL.of u6⟩, _, rfl, _, rfl, D, _, rfl, g, lw, _, _, rfl, rfl, u6, by rw [List.length_map, u7, sizeLine_eq]; omega, ps2, bs2, r ++ [ps2.idxOf (nextOf A a p.1, nextOf B a p.2)], _, rfl, by rw [upd_ne hpw]; exact u1, u2.tk (tk_put u6 _), by rw [upd_ne hDw]; exact u3, by rw [upd_ne hrw]; exact u4, u5.tk (tk_put u6 _), by rw [upd_same, List.map_append]; rfl, by rw [List.length_append, u7]; rfl, S, hp, fun x hx => ?_, putW s5⟩
    rcases Nat.lt_or_ge x a with h | h
    · obtain ⟨j, z1, z2⟩ := u8 x h
      exact ⟨j, get_app z1, z2⟩
    · obtain rfl : x = a := by omega
      refine ⟨ps2.idxOf (nextOf A x p.1, nextOf B x p.2), by rw [← u7]; simp, ?_⟩
      have hi := List.idxOf_lt_length_of_mem c2
      rw [List.getElem?_eq_getElem hi]
      exact congrArg some (List.getElem_idxOf hi)
  clear m1w m2w m3w m4w m5w ew S hp s2w
  rintro σ H3 ⟨ps', bs', r, v9, rfl, u1, u2, u3, u4, u5, u6, u7, S, hp, u8, s5⟩
  have pl' := S.few
  refine ⟨_, rfl, .inl ⟨rfl, _, SqL.of u4⟩, _, rfl, lw, _, rfl, .inl ⟨SqL.of u6, fun tt htt => ?_⟩⟩
  have sT := same_new htt (.tup (r.map nI))
  have u4' := sT _ _ u4
  have rl : R.length < ps'.length := (List.getElem?_eq_some_iff.mp hp).1
  refine ⟨lr, _, _, rfl, rfl, u4', by rw [u5.1, sizeLine_eq]; omega, ?_⟩
  refine ⟨_, rfl, _, _, rfl, rfl, ?_⟩
  show W _ _ _
  rw [hW]
  exact ⟨ps', R ++ [r], bs', rs ++ [.ref tt], _, _, _, _, by rw [List.length_append]; rfl, by rw [List.length_append]; rfl, by rw [upd_ne hpr]; exact sT _ _ u1, (u2.tk (tk_same sT)).tk (tk_put u4' _), by rw [upd_ne hDr]; exact sT _ _ u3, upd_same, ((u5.tk (tk_same sT)).snoc ⟨tt, rfl, upd_same⟩).tk (tk_put u4' _), S.snoc hp u7 u8, putR (s5.trans sT)⟩
end
end Vf

set_option Elab.async false
set_option linter.all false
set_option maxRecDepth 100000
/-! ### x in t, t a tuple of data; tuples of values told by their addresses -/
namespace L2
open PySem PySem.Spec PyProof.Rows
section
variable {X : Cx}
def rInT (K : PySem.W.Frag) : R2 := fun x y H Q => ∃ d ds, Dp K H x d ∧ Dp K H y (.tuple ds) ∧ SeqAt.shaped d = true ∧ SeqAt.shaped (.tuple ds) = true ∧ Q (.bl (ds.any fun z => PyData.eqv z d)) H
theorem op_inT (hu : X.A.units + 65 < cLine) : OpR X (compareOp .In) (rInT X.K) := by
  intro pins s σ H x y v u Q I rx ry h
  obtain ⟨d, ds, hd, he, sd, se, q⟩ := h
  obtain ⟨as, r1⟩ := Dp.reads I d x v hd rx
  obtain ⟨bs, r2⟩ := Dp.reads I (.tuple ds) y u he ry
  exact SeqAt.in_tuple_reads r2 r1 (SeqAt.canLay_of_shaped se) (SeqAt.canLay_of_shaped sd) (room_in_shaped sd hu) ⟨.bl _, H, I, rfl, q⟩
theorem inT_at {K : PySem.W.Frag} (e : X.K = K) (hu : X.A.units + 65 < cLine) : OpR X (compareOp .In) (rInT K) := e ▸ op_inT hu
end
/-- values that are addresses of tuples with this in them -/
def NT (H : Hp) (vs : List V) (cs : List (List V)) : Prop := vs.length = cs.length ∧ ∀ (i : Nat) (v : V) (c : List V), vs[i]? = some v → cs[i]? = some c → ∃ q, v = .ref q ∧ H q = some (.tup c)
theorem NT.nil (H : Hp) : NT H [] [] := ⟨rfl, fun i v c e => by simp at e⟩
theorem NT.tups {H H' : Hp} {vs : List V} {cs : List (List V)} (h : NT H vs cs) (s : ∀ b ys, H b = some (.tup ys) → H' b = some (.tup ys)) : NT H' vs cs := ⟨h.1, fun i v c e1 e2 => (h.2 i v c e1 e2).imp fun q z => ⟨z.1, s _ _ z.2⟩⟩
theorem NT.snoc {H : Hp} {vs : List V} {cs : List (List V)} {q : Addr} {c : List V} (h : NT H vs cs) (hq : H q = some (.tup c)) : NT H (vs ++ [.ref q]) (cs ++ [c]) := by
  refine ⟨by rw [List.length_append, List.length_append, h.1]; rfl, fun i b p' e1 e2 => ?_⟩
  rcases Nat.lt_trichotomy i vs.length with z | z | z
  · rw [List.getElem?_append_left z] at e1
    rw [List.getElem?_append_left (by rw [← h.1]; exact z)] at e2
    exact h.2 i b p' e1 e2
  · subst z
    have e1' : some (V.ref q) = some b := by simpa using e1
    have e2' : some c = some p' := by rw [h.1] at e2; simpa using e2
    obtain rfl := Option.some.inj e1'
    obtain rfl := Option.some.inj e2'
    exact ⟨q, rfl, hq⟩
  · have := (List.getElem?_eq_some_iff.mp e1).1
    rw [List.length_append] at this
    have : ([V.ref q] : List V).length = 1 := rfl
    omega
theorem NT.get {H : Hp} {vs : List V} {cs : List (List V)} (h : NT H vs cs) {i : Nat} {c : List V} (hc : cs[i]? = some c) : ∃ q : Addr, vs[i]? = some (.ref q) ∧ H q = some (.tup c) := by
  have hi := (List.getElem?_eq_some_iff.mp hc).1
  have hb : vs[i]? = some (vs[i]'(by rw [h.1]; exact hi)) := List.getElem?_eq_getElem _
  obtain ⟨q, e1, e2⟩ := h.2 i _ c hb hc
  exact ⟨q, by rw [hb, e1], e2⟩
/-- tuples of two bools -/
abbrev b2 (b : Bool × Bool) : List V := [.bl b.1, .bl b.2]
def d2 (b : Bool × Bool) : PyData := .tuple [.bool b.1, .bool b.2]
theorem dp_b2 {K : PySem.W.Frag} {H : Hp} {q : Addr} {b : Bool × Bool} (h : SqT K H q (b2 b)) : Dp K H (.ref q) (d2 b) := .tup h (.cons (.bl _) (.cons (.bl _) .nil))
theorem d2_shaped (b : Bool × Bool) : SeqAt.shaped (d2 b) = true := by
  obtain ⟨x, y⟩ := b
  cases x <;> cases y <;> decide
theorem d2_eqv (a b : Bool × Bool) : PyData.eqv (d2 a) (d2 b) = decide (a = b) := by
  obtain ⟨x, y⟩ := a
  obtain ⟨z, t⟩ := b
  cases x <;> cases y <;> cases z <;> cases t <;> decide
theorem any_d2 (bs : List (Bool × Bool)) (b : Bool × Bool) : ((bs.map d2).any fun z => PyData.eqv z (d2 b)) = decide (b ∈ bs) := by
  rw [List.any_map, Bool.eq_iff_iff, decide_eq_true_iff, List.any_eq_true]
  constructor
  · rintro ⟨c, hc, e⟩
    have e' : PyData.eqv (d2 c) (d2 b) = true := e
    rw [d2_eqv, decide_eq_true_iff] at e'
    exact e' ▸ hc
  · intro h
    exact ⟨b, h, by show PyData.eqv (d2 b) (d2 b) = true; rw [d2_eqv]; exact decide_eq_true rfl⟩
theorem dps_d2 {K : PySem.W.Frag} {H : Hp} : ∀ {vs : List V} {bs : List (Bool × Bool)}, NT H vs (bs.map b2) → DpAll K H vs (bs.map d2)
  | [], [], _ => .nil
  | v :: vs, b :: bs, h => by
    obtain ⟨q, rfl, hq⟩ := h.2 0 v (b2 b) rfl rfl
    exact .cons (dp_b2 (SqT.of hq)) (dps_d2 ⟨Nat.succ.inj h.1, fun i v c e1 e2 => h.2 (i + 1) v c e1 e2⟩)
  | [], b :: bs, h => by have := h.1; simp at this
  | v :: vs, [], h => by have := h.1; simp at this
end L2

set_option Elab.async false
set_option linter.all false
set_option maxRecDepth 100000
set_option maxHeartbeats 4000000
namespace Vx
open PySem PySem.W PySem.Calls PyProof.Rows
section
variable {M : Model} {A : Around} {E : Value → Shared → Prop} {h : Heap} {g : Array GenState} {d : Drawn} {t : Nat} {os : OsState}
variable {nm q : Str} {C N : Addr} {bs bm bmB : List Value} {hdct : Bool} {sn : List Str} {sub : List Value} {ab : Bool} {col : Option Bool} {dd : Option Addr} {k0 k1 k2 k3 k5 : Option Value} {B newId initId : String}
/-- what __new__ of an exception class checks: any values, any keywords -/
theorem check_newK (FB : ExcBaseFacts B newId initId bmB) (hT : ∀ X : String, bm.contains (.type X) = bmB.contains (.type X)) {rest : List Value} {kw : List (Str × Value)} {Q : Unit → Shared → Prop}
    (hC : h.get? C = some (excClassObj nm q C N bs bm hdct sn sub ab col dd k0 k1 k2 k3 k5 newId)) (hq : Q () ⟨h, g, d, t, os⟩) : wpAny M A (checkBuiltinCall newId ⟨.ref C :: rest, kw⟩) Q E ⟨h, g, d, t, os⟩ := by
  have hB : (Value.ref C :: bm).contains (.type B) = true := by
    rw [List.contains_cons, hT, FB.hasB]
    exact Bool.or_true _
  have hst := FB.noStar
  simp only [checkBuiltinCall, FB.newKind, FB.newSplit, FB.newRow]
  repeat (first | refine wpAny_loadPart_at hC ?_ | (refine wpAny_isSubtype_exc hC ?_; rw [hB]) | refine wpAny_staticBase_exc hC ?_ | refine wpAny_madeBy_exc hC ?_ | simp only [bne_self_eq_false, Bool.false_eq_true, if_false] | wp_step)
  exact hq
end
section
variable {prog : Program} {w : World} {A : Around} {E : Value → Shared → Prop} {R : Result → Shared → Prop} {h : Heap} {g : Array GenState} {d : Drawn} {t : Nat} {os : OsState}
variable {nm q : Str} {C N : Addr} {bs bm bmB : List Value} {hdct : Bool} {sn : List Str} {sub : List Value} {ab : Bool} {col : Option Bool} {dd : Option Addr} {k0 k1 k2 k3 k5 : Option Value} {B newId initId : String}
/-- the heap behind __new__ -/
abbrev madeH (h : Heap) (rest : List Value) (C : Addr) : Heap := (h.push (kdv_tup rest)).push (PySem.HandSPX.excO C h.objs.size)
theorem new_ownK (FB : ExcBaseFacts B newId initId bmB) (hT : ∀ X : String, bm.contains (.type X) = bmB.contains (.type X)) {rest : List Value} {kw : List (Str × Value)}
    (hC : h.get? C = some (excClassObj nm q C N bs bm hdct sn sub ab col dd k0 k1 k2 k3 k5 newId)) (hl : rest.length ≤ sizeLine)
    (hq : R (.ok (.ret (.ref (h.objs.size + 1)))) ⟨madeH h rest C, g, d, t, os⟩) :
    codeAny (model prog w) A (.builtin newId ⟨.ref C :: rest, kw⟩) R ⟨h, g, d, t, os⟩ := by
  have he := FB.ends
  have hB : (Value.ref C :: bm).contains (.type B) = true := by
    rw [List.contains_cons, hT, FB.hasB]
    exact Bool.or_true _
  have hA : (Value.ref C :: bm).contains (.type "AttributeError") = false := by
    rw [List.contains_cons, hT, FB.noAttr] <;> rfl
  have hN : (Value.ref C :: bm).contains (.type "NameError") = false := by
    rw [List.contains_cons, hT, FB.noName] <;> rfl
  refine codeAny_builtinAt FB.entry ?_
  unfold Builtin.«BaseException.__new__»; refine PySem.wpAt_bind ?_
  show PySem.wpAt _ _ _ (stack >>= _) _ _ _
  refine PySem.wpAt_bind (PySem.wpAt_stack fun p below => PySem.wpAt_of_wpAny ?_)
  wp_walk
  refine PySem.wpAt_of_wpAny ?_
  rw [FB.owner]
  repeat (first | with_reducible refine wpAny_madeHere_exc FB.canon hC ?_ | with_reducible refine wpAny_loadPart_at hC ?_ | (with_reducible refine wpAny_isSubtype_exc hC ?_; first | rw [hB] | rw [hA] | rw [hN]) | wp_step)
  show R _ _
  rw [Heap.size_push]
  exact hq
theorem type_callK (FB : ExcBaseFacts B newId initId bmB) (hT : ∀ X : String, bm.contains (.type X) = bmB.contains (.type X)) {rest : List Value} {kw : List (Str × Value)} {fI : Addr} {Q : Fin → Shared → Prop}
    (hC : h.get? C = some (excClassObj nm q C N bs bm hdct sn sub ab col dd k0 k1 k2 k3 k5 newId)) (hl : rest.length ≤ sizeLine)
    (hi : Looks (model prog w) h (typeLookup (.ref C) "__init__") (some (.ref fI))) (hb : ∀ self, Looks (model prog w) h (bindSpecial (.ref fI) self) (.ref fI, [self]))
    (hq : codeAny (model prog w) A (.call (.ref fI) ⟨.ref (h.objs.size + 1) :: rest, kw⟩)
      (fun r s' => match r with | .ok (.ret v) => v = .none ∧ Q (.done (.ret (.ref (h.objs.size + 1)))) s' | .ok _ => False | .error e => E e s') ⟨madeH h rest C, g, d, t, os⟩) :
    wpAny (model prog w) A (Builtin.«type.__call__» ⟨.ref C :: rest, kw⟩) Q E ⟨h, g, d, t, os⟩ := by
  repeat (first | with_reducible refine wpAny_loadPart_at hC ?_ | with_reducible refine wpAny_madeBy_exc hC ?_ | wp_step)
  refine codeAny_call_builtin_code (Code.quiet_builtin _ FB.quiet) (check_newK FB hT hC ?_)
  refine new_ownK FB hT hC hl ?_
  show wpAny _ _ _ _ _ _
  have k : ∀ b o, h.get? b = some o → (madeH h rest C).get? b = some o := fun b o e => Heap.get?_push_of_some _ (Heap.get?_push_of_some _ e)
  have hC1 := k _ _ hC
  have hg : (madeH h rest C).get? (h.objs.size + 1) = some (PySem.HandSPX.excO C h.objs.size) := by heap_get
  have hcC : (Value.ref C :: bm).contains (.ref C) = true := by simp
  have i1 := hi.keeps k
  have b1 := (hb (.ref (h.objs.size + 1))).keeps k
  unfold isInstance
  repeat (first | with_reducible refine wpAny_loadPart_at hg ?_ | (with_reducible refine wpAny_isSubtype_exc hC1 ?_; rw [hcC]) | wp_step)
  show wpAny _ _ (typeLookup (.ref C) _) _ _ _
  refine i1.at ?_
  refine wpAny_holding (wpAny_bind (b1.at ?_))
  refine wpAny_bind (wpAny_call (codeAny_mono hq fun r s' z => ?_))
  rcases r with e | (v | _ | _ | _) <;> first | exact z | exact z.elim | skip
  obtain ⟨rfl, z⟩ := z
  first
    | exact wpAny_pure (wpAny_pure z)
    | (wp_walk; exact z)
theorem call_ownK (FB : ExcBaseFacts B newId initId bmB) (hT : ∀ X : String, bm.contains (.type X) = bmB.contains (.type X)) {rest : List Value} {kw : List (Str × Value)} {fI : Addr}
    (hC : h.get? C = some (excClassObj nm q C N bs bm hdct sn sub ab col dd k0 k1 k2 k3 k5 newId)) (hl : rest.length ≤ sizeLine)
    (hi : Looks (model prog w) h (typeLookup (.ref C) "__init__") (some (.ref fI))) (hb : ∀ self, Looks (model prog w) h (bindSpecial (.ref fI) self) (.ref fI, [self]))
    (hq : codeAny (model prog w) (A.under (.builtin "type.__call__" ⟨.ref C :: rest, kw⟩)) (.call (.ref fI) ⟨.ref (h.objs.size + 1) :: rest, kw⟩) (InitBack (h.objs.size + 1) R) ⟨madeH h rest C, g, d, t, os⟩) :
    codeAny (model prog w) A (.call (.ref C) ⟨rest, kw⟩) R ⟨h, g, d, t, os⟩ := by
  have f1 := tc_lookup
  have f2 := tc_bind (.ref C)
  have f3 := tc_sub
  have hTy : (⟨h, g, d, t, os⟩ : Shared).TypeIs (.ref C) "type" := ⟨_, hC, rfl⟩
  have ck : ∀ {A' : Around} {E' : Value → Shared → Prop} {Q : Unit → Shared → Prop}, Q () ⟨h, g, d, t, os⟩ → wpAny (model prog w) A' (checkBuiltinCall "type.__call__" ⟨.ref C :: rest, kw⟩) Q E' ⟨h, g, d, t, os⟩ := by
    intro A' E' Q hq
    simp only [checkBuiltinCall, tc_kind, tc_split]
    repeat (any_goals (first | assumption | with_reducible refine wpAny_loadPart_at hC ?_ | with_reducible refine wpAny_onRaise ?_ | with_reducible refine wpAny_map ?_ | wp_step))
  refine codeAny_of_tree ?_
  show wpAny _ _ (callAny (.ref C) _) _ _ _
  repeat (any_goals (first | assumption | with_reducible refine wpAny_loadPart_at hC ?_ | wp_step))
  refine ⟨rfl, ?_⟩
  refine codeAny_call_builtin_at (Code.quiet_builtin _ (by decide +kernel)) entry_typeCall (ck (type_callK FB hT hC hl hi hb ?_))
  refine codeAny_mono hq fun r s' z => ?_
  rcases r with e | (v | _ | _ | _) <;> exact z
end
end Vx

set_option Elab.async false
set_option linter.all false
set_option maxRecDepth 100000
set_option maxHeartbeats 4000000
namespace L2
namespace Vx
open PySem PySem.Spec PyProof.Rows _root_.Vx
abbrev exTail : List Value := [.type "Exception", .type "BaseException", .type "object"]
theorem exTail_ne {l : List Value} (e : PySem.W.excTail exTail l = true) : l.isEmpty = false := by
  cases l with
  | nil => exact absurd e (by decide)
  | cons _ _ => rfl
section
open PySem.W PySem.Calls Builtin Builtin.ObjectAttr
variable {prog : Program} {w : World} {A : Around} {E : Value → Shared → Prop} {R : Result → Shared → Prop} {hp : Heap} {g : Array GenState} {d : Drawn} {t : Nat} {os : OsState}
/-- self.name = v on an exception of an own class over Exception that has no dict yet -/
theorem osaE {K : W.Frag} {name : Str} {tk : Tok} {v : Value} {x C : Addr} {fv : Array Value} {cd : ClassData}
    (X : K.In hp) (hx : hp.get? x = some { cls := .ref C, data := .fields fv }) (hcd : W.clsIn K C = some cd) (hm : excTail exTail cd.mro = true) (hh : cd.hasDict = true) (ha : W.findIn K (.ref C) name = some none)
    (hq : ∀ h' tk' dx, (∀ b o, b ≠ x → hp.get? b = some o → h'.get? b = some o) → hp.objs.size ≤ dx → dx ≠ x → h'.get? x = some { cls := .ref C, dict := some dx, data := .fields fv } →
      h'.Ns1 dx (fun y => if y = name then some v else none) → R (.ok (.ret .none)) ⟨h', g, d, tk', os⟩) :
    codeAny (model prog w) A (.call (.builtin "object.__setattr__") ⟨[.ref x, .str name tk, v], []⟩) R ⟨hp, g, d, t, os⟩ := by
  have SF := F.store_object
  have I : W.InstAt hp x { cls := .ref C, data := .fields fv } C none := ⟨hx, rfl, rfl, trivial⟩
  have ne := exTail_ne hm
  have hob : cd.mro.contains (.type "object") = true := (excTail_contains "object" _ hm).trans (by decide +kernel)
  have hxs : x ≠ hp.objs.size := Nat.ne_of_lt (Heap.lt_size hx)
  have hmi : W.mroIn K C (.type "object") = some true := by
    unfold W.mroIn
    rw [hcd, Option.bind_some, if_neg (by rw [ne]; decide), hob]
  have sub : W.Looks (model prog w) hp (isInstance (.ref x) (.type "object")) true := I.type.andThen (W.looks_mroIn X hmi)
  refine codeAny_call_builtin SF.slot.plain SF.entry (@W.check_slot (model prog w) _ _ ⟨hp, g, d, t, os⟩ "object.__setattr__" "object" "__setattr__" (.ref x) [.str name tk, v] [] _ SF.kind SF.split sub (SF.args (.ref x) (.str name tk) v) ?_)
  have hmr : W.Looks (model prog w) hp (mroOf (.ref C)) cd.mro := (W.looks_clsIn X hcd).andThen .now
  have L3 : W.Looks (model prog w) hp (storeTaker? none) none := .now
  have hcls : W.Looks (model prog w) hp (classData C) cd := W.looks_clsIn X hcd
  rw [W.osa_eq, refuse_eq]
  refine wpAny_bind (wpAny_bind (I.type.at (wpAny_bind (hmr.at ?_))))
  rw [excTail_pass _ (F.store_Exception.passes _) _ hm]
  refine wpAny_pure (wpAny_bind (I.type.at (wpAny_bind ((W.looks_findIn X ha).at (wpAny_bind (L3.at ?_))))))
  show wpAny _ _ (storeInOwnDict (.ref x) (.ref C) (.str name tk) name v false) _ _ _
  obtain ⟨nm, bs, mro, ns, qn, hd, sn, sb, ab, col, del⟩ := cd
  dsimp only at hh
  subst hh
  unfold storeInOwnDict ownDictForStores
  repeat (first | with_reducible refine PySem.HandSPX.store_in_new ?_ ?_ | with_reducible refine wpAny_loadPart_at hx ?_ | with_reducible refine hcls.at ?_ | wp_step)
  · exact ⟨_, #[], _, (Heap.get?_update_ne _ _ _ _ hxs.symm).trans (Heap.get?_push_at rfl rfl), rfl, fun e he => absurd he (by simp), fun _ => rfl⟩
  · intro h' tk' hn' hs
    have hx1 : (hp.push { cls := .type "dict", data := .dict #[] }).get? x = some { cls := .ref C, data := .fields fv } := Heap.get?_push_of_some _ hx
    refine hq h' tk' hp.objs.size (fun b o hb ho => ?_) (Nat.le_refl _) hxs.symm ?_ hn'
    · exact (hs.2 b (Nat.ne_of_lt (Heap.lt_size ho))).trans ((Heap.get?_update_ne _ _ _ _ hb).trans (Heap.get?_push_of_some _ ho))
    · exact (hs.2 x hxs).trans (Heap.get?_update_self _ hx1 rfl)
end
/-- what the written part says of an own exception class over Exception -/
structure OexE (K : PySem.W.Frag) (C : Addr) : Prop where
  cls : ∃ nm q N bs bm sn sub ab col dd k0 k1 k2 k3 k5, K.lookup C = some (excClassObj nm q C N bs bm true sn sub ab col dd k0 k1 k2 k3 k5 "Exception.__new__") ∧ PySem.W.excTail exTail bm = true
  sa : PySem.W.findIn K (.ref C) "__setattr__" = some (some (.builtin "object.__setattr__"))
  ga : PySem.W.findIn K (.ref C) "__getattribute__" = some (some (.builtin "BaseException.__getattribute__"))
  gg : PySem.W.findIn K (.ref C) "__getattr__" = some none
  ca : PySem.W.findIn K (.ref C) "__class__" = some (some (.builtin "object.__class__"))
  cn : PySem.W.specialIn K (.builtin "object.__class__") "__get__" = some (some (.builtin "getset_descriptor.__get__"))
  ct : PySem.W.takesIn K (.builtin "object.__class__") = some true
  cm : PySem.W.mroIn K C (.type "object") = some true
  exC : PySem.W.subIn K (.ref C) (.type "BaseException") = some true
  tyC : PySem.W.typeIn K (.ref C) = some (.type "type")
  hdC : PySem.W.hasDictIn K C = true
  kC : PySem.W.keepIn K (.ref C) = true
section
variable {X : Cx} {pins : List (Addr × Obj)} {σ : St} {H : Hp} {s : Shared} {a C dx : Addr} {f : Str} {y : V} {u : Value} {fs : List (Str × V)} {Q : Unit → Shared → Prop} {E : Value → Shared → Prop} {A : Around}
theorem ost_newE (T : OexE X.K C) (I : Inv X pins σ H s) (e : H a = some (exo a C none)) (hno : PySem.W.findIn X.K (.ref C) f = some none) (ry : RelV y u)
    (h : ∀ dx s', H dx = none → dx ≠ a → Inv X pins σ (upd (upd H dx (exd dx [(f, y)])) a (exo a C (some dx))) s' → Q () s') : wpAny (model X.prog X.w) A (setAttr (.ref a) f u) Q E s := by
  obtain ⟨nm, q, N, bs, bm, sn, sub, ab, col, dd, k0, k1, k2, k3, k5, hC, hbm⟩ := T.cls
  have hcl : PySem.W.clsIn X.K C = some { name := nm, bases := bs, mro := .ref C :: bm, ns := N, qualname := q, hasDict := true, slotNames := sn, subclasses := sub, abstract := ab, collection := col, hasDel := false } := by
    unfold PySem.W.clsIn
    rw [hC] <;> rfl
  obtain ⟨t1, ho⟩ := exo_at I.hok e
  obtain ⟨hp, g, d, t, os⟩ := s
  refine PySem.W.set_plain I.kIn (ox := { cls := .ref C, dict := none, data := .fields #[.ref t1, .none, .none, .none, .bool false, .none] }) (od := none) ⟨ho, rfl, rfl, trivial⟩ T.sa ?_
  refine osaE I.kIn ho hcl (show PySem.W.excTail exTail (.ref C :: bm) = true from hbm) rfl hno (fun h' tk' dx k dn dne hx hn => ?_)
  have hnd : H dx = none := I.hok.fresh dn
  have nd : ∀ {b : Addr} {o : Obj}, hp.get? b = some o → b ≠ dx := fun {b o} q => Nat.ne_of_lt (Nat.lt_of_lt_of_le (Heap.lt_size q) dn)
  have na : ∀ {b : Addr}, H b = none → b ≠ a := fun {b} n z => by rw [z, e] at n; cases n
  have U : Un X.fs [] H (upd (upd H dx (exd dx [(f, y)])) a (exo a C (some dx))) hp h' := by
    refine ⟨fun b o q n _ _ => k b o (na n) q, fun b o q n _ _ => ⟨o.slots, k b o (na n) q⟩, fun b o q n _ => ?_, fun b o q _ => ?_, fun b xs q => ?_, fun b o v q => ?_, fun b ps q => ⟨#[], ?_⟩⟩
    · rw [upd_ne (na n), upd_ne (nd q)]; exact n
    · by_cases hb : b = a
      · exact ⟨_, by rw [hb]; exact hx⟩
      · exact ⟨o, k b o hb q⟩
    · rw [upd_ne (at_ne e q exo_tup), upd_ne (ne_of_none q hnd)]; exact q
    · rw [upd_ne (at_ne e q exo_frz), upd_ne (ne_of_none q hnd)]; exact q
    · rw [upd_ne (at_ne e q exo_tbl), upd_ne (ne_of_none q hnd), q]; simp
  refine h dx _ hnd dne (I.un (t' := tk') U fun b o q => ?_)
  by_cases hb : b = a
  · subst hb
    rw [upd_same] at q
    cases q
    exact exo_ok hx
  · rw [upd_ne hb] at q
    by_cases hd : b = dx
    · subst hd
      rw [upd_same] at q
      cases q
      exact exd_ok hn (relO_put (fs := []) ry fun g => True.intro)
    · rw [upd_ne hd] at q
      refine (I.hok b o q).stay (fun c v hc z => k c v ?_ z) (fun c hc => ?_) (fun c xs hc => ?_)
      · rcases hc with hc | hc
        · rw [hc]; exact hb
        · exact at_ne e hc exo_own
      · rw [upd_ne (at_ne e hc exo_own), upd_ne (ne_of_none hc hnd)]; exact hc
      · rw [upd_ne (at_ne e hc exo_tup), upd_ne (ne_of_none hc hnd)]; exact hc
end
/-- self.f = e in __init__ -/
def tOstE (K : PySem.W.Frag) (f : Str) (to te : TE) : TS := fun D σ H => te σ H fun y H1 => to σ H1 fun x H2 => ∃ a C : Addr, x = .ref a ∧ OexE K C ∧ PySem.W.findIn K (.ref C) f = some none ∧
  H2 a = some (exo a C none) ∧ ∀ dx, H2 dx = none → dx ≠ a → D.nx σ (upd (upd H2 dx (exd dx [(f, y)])) a (exo a C (some dx)))
theorem ps_ostE {X : Cx} {o e : Expr} {to te : TE} {f : Str} {p' pos : Pos} (ho : PE X o to) (he : PE X e te) (hs : swapsWith e (some (.Attribute o f p')) pos.line X.env = pure false := by rfl) : PS X (.Assign [.Attribute o f p'] e pos) (tOstE X.K f to te) := by
  refine ⟨fun pins s σ H D I h => ?_⟩
  refine plainObj_wpAny_Assign_Attribute (thn (he.run pins s σ H _ I h) fun v s1 ⟨y, H1, I1, r1, q1⟩ => thn (ho.run pins s1 σ H1 _ I1 q1) fun u s2 ⟨x, H2, I2, r2, a, C, ex, T, hno, ea, q⟩ => ?_) hs
  subst ex
  obtain rfl : u = Value.ref a := r2
  exact ost_newE T I2 ea hno r1 fun dx s' n ne J => ⟨σ, _, J, q dx n ne⟩
/-- what __init__ of such a class promises -/
def spInitE (C : Addr) (f : Str) : Sp := fun vs H Q _ => ∃ (a : Addr) (v : V), vs = [.ref a, v] ∧ H a = some (exo a C none) ∧ ∀ dx, H dx = none → dx ≠ a → Q .non (upd (upd H dx (exd dx [(f, v)])) a (exo a C (some dx)))
section
variable {X : Cx} {pins : List (Addr × Obj)} {σ : St} {H : Hp} {s : Shared} {C fI : Addr} {k : Nat} {fdI : FuncData} {f : Str}
/-- the class: its facts, its __init__ and the promise of that -/
structure ExK (P : Program) (w : World) (K : PySem.W.Frag) (mg : Str → Option Value) (base : Heap) (C : Addr) (f : Str) (k : Nat) : Prop where
  T : OexE K C
  no : PySem.W.findIn K (.ref C) f = some none
  ini : ∃ (fI : Addr) (fdI : FuncData), PySem.W.findIn K (.ref C) "__init__" = some (some (.ref fI)) ∧ PySem.W.typeIn K (.ref fI) = some (.type "function") ∧
    FnOk P w K mg base CX0 k fI fdI ["self", f] (spInitE C f) ∧
    (∀ (s : Shared) (a u : Value), BindsTo s fdI ⟨[a, u], []⟩ [("self", a), (f, u)]) ∧ ∀ (s : Shared) (a u : Value), BindsTo s fdI ⟨[a], [(f, u)]⟩ [("self", a), (f, u)]
/-- what holds behind C(v), C(f=v): a new exception at a, its dict at d -/
def MadeE (C : Addr) (f : Str) (v : V) (H : Hp) (Q : VK) : Prop := ∀ a d H', H a = none → H d = none → d ≠ a → Same H H' → H' a = some (exo a C (some d)) → H' d = some (exd d [(f, v)]) → Q (.ref a) H'
theorem run_exE {Q : VK} {u : Value} {v : V} {rest : List Value} {kw : List (Str × Value)} (Z : ExK X.prog X.w X.K X.mg X.base C f k) (hr : Room (k + 1) X.A) (I : Inv X pins σ H s) (r : RelV v u) (hk : (rest = [u] ∧ kw = []) ∨ (rest = [] ∧ kw = [(f, u)]))
    (h : MadeE C f v H Q) : wpAny (model X.prog X.w) X.A (call (.ref C) rest kw) (EP X pins σ Q) X.xe s := by
  obtain ⟨T, _, fI, fdI, iC, tI, F1, hb1, hb2⟩ := Z
  obtain ⟨nm, q, N, bs, bm, sn, sub, ab, col, dd, k0, k1, k2, k3, k5, hC, hbm⟩ := T.cls
  obtain ⟨hp, g, dr, tk, os⟩ := s
  have hsz : hp.objs.size ≤ hp.objs.size + 1 := Nat.le_succ _
  have hn : H (hp.objs.size + 1) = none := I.hok.fresh hsz
  have kk : ∀ b o, hp.get? b = some o → (madeH hp rest C).get? b = some o := fun b o e => Heap.get?_push_of_some _ (Heap.get?_push_of_some _ e)
  have hget : (madeH hp rest C).get? (hp.objs.size + 1) = some (PySem.HandSPX.excO C hp.objs.size) := by heap_get
  have I2 : Inv X pins σ (upd H (hp.objs.size + 1) (exo (hp.objs.size + 1) C none)) ⟨madeH hp rest C, g, dr, tk, os⟩ :=
    I.laid (t' := tk) (a := hp.objs.size + 1) (o := exo (hp.objs.size + 1) C none) (h' := madeH hp rest C) kk hsz (exo_ok hget)
  have hl : rest.length ≤ sizeLine := by
    rcases hk with ⟨e, _⟩ | ⟨e, _⟩ <;> (rw [e, sizeLine_eq]; simp)
  have hq : spInitE C f [.ref (hp.objs.size + 1), v] (upd H (hp.objs.size + 1) (exo (hp.objs.size + 1) C none)) (fun x H' => x = .non ∧ Q (.ref (hp.objs.size + 1)) H') (fun _ _ _ => False) := by
    refine ⟨_, v, rfl, upd_same, fun dx n ne => ⟨rfl, ?_⟩⟩
    have nd : H dx = none := by rw [upd_ne ne] at n; exact n
    refine h _ dx _ hn nd ne (fun b o e => ?_) upd_same (by rw [upd_ne ne, upd_same])
    rw [upd_ne (ne_of_none e hn), upd_ne (ne_of_none e nd), upd_ne (ne_of_none e hn)]
    exact e
  have hbt : ∀ s' : Shared, BindsTo s' fdI ⟨.ref (hp.objs.size + 1) :: rest, kw⟩ ((["self", f] : List Str).zip [.ref (hp.objs.size + 1), u]) := fun s' => by
    rcases hk with ⟨e1, e2⟩ | ⟨e1, e2⟩ <;> subst e1 e2
    · exact hb1 s' _ _
    · exact hb2 s' _ _
  refine wpAny_call (call_ownK PySem.F.excBase_Exception (fun Y => PySem.W.excTail_contains Y bm hbm) (I.kIn _ _ hC) hl (PySem.W.looks_findIn I.kIn iC) (fun self => PySem.W.bind_fn I.kIn self tI)
    (codeAny_mono (F1.run _ X.stack _ _ ⟨Value.ref (hp.objs.size + 1) :: rest, kw⟩ [Value.ref (hp.objs.size + 1), u] [V.ref (hp.objs.size + 1), v] _ (fun _ _ _ => False) (hr.make C rest kw) (I2.env0.make C rest kw) (hbt _) (.cons rfl (.cons r .nil)) hq) fun r s' hq' => ?_))
  cases r with
  | error e => exact hq'.elim
  | ok fl =>
    cases fl with
    | ret u =>
      obtain ⟨v', H', I3, rv, ev, q3⟩ := I2.after hq'
      subst ev
      exact ⟨rv, ⟨V.ref (hp.objs.size + 1), H', I3, rfl, q3⟩⟩
    | next => exact False.elim hq'
    | brk => exact False.elim hq'
    | cont => exact False.elim hq'
/-- C(e) -/
def tExE (C : Addr) (f : Str) (ta : TE) : TE := fun σ H Q => ta σ H fun v H1 => MadeE C f v H1 Q
theorem pe_exE {x : Str} {e : Expr} {te : TE} {p pos : Pos} (Z : ExK X.prog X.w X.K X.mg X.base C f k) (hr : Room (k + 1) X.A) (hm : X.mg x = some (.ref C)) (he : PE X e te) (hg : Gl X x := by rfl) (hdb : (x == ("__debug__" : Str)) = false := by decide)
    (hs : starEach [e] X.env = (false, eval e X.env) :: starEach [] X.env := by rfl) (hpl : (backTo pos (starEach [] X.env)).any (·.1) = false := by rfl) :
    PE X (.Call (.Name x p) [e] [] pos) (tExE C f te) := by
  refine ⟨fun pins s σ H Q I h => ?_⟩
  refine wpAny_Call_Name_kw (ld_glob I hg hm ?_ hdb)
  refine PySem.W.callWith_K (h₀ := X.base) I.ok.mod.kin Z.T.kC ?_ hs hpl
  rw [hs]
  show wpAny _ _ (spliced ((false, eval e X.env) :: backTo pos (starEach [] X.env))) _ _ s
  refine Calls.spliced_cons (thn (he.run pins s σ H _ I h) fun u s1 ⟨v, H1, I1, r1, q1⟩ => ?_)
  refine Calls.spliced_nil ⟨I1.kIn, ?_⟩
  show wpAny _ _ (call (.ref C) [u] []) _ _ _
  exact run_exE Z hr I1 r1 (.inl ⟨rfl, rfl⟩) q1
/-- C(f=e) -/
theorem pe_exK {x : Str} {e : Expr} {te : TE} {p pos kp : Pos} (Z : ExK X.prog X.w X.K X.mg X.base C f k) (hr : Room (k + 1) X.A) (hm : X.mg x = some (.ref C)) (he : PE X e te) (hg : Gl X x := by rfl) (hdb : (x == ("__debug__" : Str)) = false := by decide) :
    PE X (.Call (.Name x p) [] [⟨some f, e, kp⟩] pos) (tExE C f te) := by
  refine ⟨fun pins s σ H Q I h => ?_⟩
  refine wpAny_Call_Name_kw (ld_glob I hg hm ?_ hdb)
  refine PySem.W.callWith_KW0 (h₀ := X.base) I.ok.mod.kin Z.T.kC rfl ?_
  show wpAny _ _ (evalAll ((do let v ← eval e X.env; standAt pos; pure v) :: [])) _ _ s
  refine wpAny_evalAll_cons (wpAny_bind (thn (he.run pins s σ H _ I h) fun u s1 ⟨v, H1, I1, r1, q1⟩ => wpAny_bind (wpAny_standAt (wpAny_pure ?_))))
  refine wpAny_evalAll_nil ⟨I1.kIn, ?_⟩
  show wpAny _ _ (call (.ref C) [] [(f, u)]) _ _ _
  exact run_exE Z hr I1 r1 (.inr ⟨rfl, rfl⟩) q1
/-- e.f of such an exception -/
def tAtE (K : PySem.W.Frag) (f : Str) (te : TE) : TE := fun σ H Q => te σ H fun x H1 => ∃ (a C d : Addr) (fs : List (Str × V)) (v : V), x = .ref a ∧ OexE K C ∧ PySem.W.findIn K (.ref C) f = some none ∧ H1 a = some (exo a C (some d)) ∧ H1 d = some (exd d fs) ∧ fs.lookup f = some v ∧ Q v H1
theorem inst_at {a C d : Addr} {fs : List (Str × V)} (I : Inv X pins σ H s) (ha : H a = some (exo a C (some d))) (hd : H d = some (exd d fs)) :
    ∃ (ox od : Obj) (mA : Str → Option Value), PySem.W.InstAt s.heap a ox C (some od) ∧ (∀ name, PySem.W.lookIn name od = some (mA name)) ∧ ∀ g, RelO (fs.lookup g) (mA g) := by
  obtain ⟨t1, ho⟩ := exo_at I.hok ha
  obtain ⟨mA, hns, rel⟩ := exd_at I.hok hd
  obtain ⟨od, hod, hl⟩ := lookIn_ns hns
  exact ⟨_, od, mA, ⟨ho, rfl, rfl, hod⟩, hl, rel⟩
theorem pe_atE {e : Expr} {te : TE} {pos : Pos} (he : PE X e te) (hb : attributeBase e f X.env (eval e X.env) = eval e X.env := by rfl) : PE X (.Attribute e f pos) (tAtE X.K f te) := by
  refine ⟨fun pins s σ H Q I h => ?_⟩
  refine attr_of hb (thn (he.run pins s σ H _ I h) fun u s1 hh => ?_)
  obtain ⟨x, H1, I1, rx, a, C, d, fs, v, ex, T, hno, ha, hd, hl, q⟩ := hh
  subst ex
  obtain rfl : u = Value.ref a := rx
  obtain ⟨ox, od, mA, J, hlk, rel⟩ := inst_at I1 ha hd
  obtain ⟨u, hu, ru⟩ := RelO.some_of (v := v) (o := mA f) (by rw [← hl]; exact rel f)
  exact PySem.HandSPX.exc_get I1.kIn J T.ga T.gg T.exC (PySem.W.findObj_own T.hdC hno rfl (by rw [hlk, hu])) (handed_of ru) ⟨v, H1, I1.tok _, ru, q⟩
/-- isinstance(e, c) -/
def rIsX (K : PySem.W.Frag) : List V → Hp → VK → Prop := fun xs H Q => ∃ (a D : Addr) (dd : Option Addr) (c : V) (cv : Value) (b : Bool), xs = [.ref a, c] ∧ ClsV c cv ∧ OexE K D ∧ H a = some (exo a D dd) ∧ (∀ d, dd = some d → ∃ fs, H d = some (exd d fs)) ∧ PySem.W.kitOne K (.ref D) cv = some b ∧ Q (.bl b) H
theorem call_isX : CallR X (.builtin "isinstance") (rIsX X.K) := by
  intro pins s σ H xs us Q I r h
  obtain ⟨a, D, dd, c, cv, b, rfl, k, T, ha, hd, e, q⟩ := h
  obtain ⟨u1, u2, rfl, r1, r2⟩ := vals2 r
  have e2 := k.eq r2
  subst e2
  cases (show u1 = Value.ref a from r1)
  have hcl : (PySem.W.clsIn X.K D).isSome = true := by
    obtain ⟨cd, hc, _⟩ := PySem.W.any_some T.hdC
    rw [hc] <;> rfl
  have hne : Value.ref a ≠ .builtin "__main__.__loader__#opaque" := fun z => nomatch z
  cases dd with
  | none =>
    obtain ⟨t1, ho⟩ := exo_at I.hok ha
    exact PySem.W.kia_one (PySem.W.kitx_exc (od := none) hcl T.ga T.gg T.exC T.ca T.cn T.ct T.cm) I.kIn ⟨ho, rfl, rfl, trivial⟩ e hne fun tk => ⟨.bl b, H, I.tok tk, rfl, q⟩
  | some d =>
    obtain ⟨fs, hd⟩ := hd d rfl
    obtain ⟨ox, od, mA, J, _, _⟩ := inst_at I ha hd
    exact PySem.W.kia_one (PySem.W.kitx_exc hcl T.ga T.gg T.exC T.ca T.cn T.ct T.cm) I.kIn J e hne fun tk => ⟨.bl b, H, I.tok tk, rfl, q⟩
end
/-- an own class over Exception without an __init__ of its own -/
structure Ex0 (K : PySem.W.Frag) (C : Addr) : Prop where
  T : OexE K C
  ini : PySem.W.findIn K (.ref C) "__init__" = some (some (.builtin "Exception.__init__"))
section
variable {X : Cx} {pins : List (Addr × Obj)} {σ : St} {H : Hp} {s : Shared} {C : Addr}
theorem run_ex0 {Q : Value → Shared → Prop} (Z : Ex0 X.K C) (I : Inv X pins σ H s)
    (h : ∀ (h' : Heap) (t1 : Addr), (∀ b o, s.heap.get? b = some o → h'.get? b = some o) → h'.get? (s.heap.objs.size + 1) = some ({ cls := .ref C, dict := none, data := .fields #[.ref t1, .none, .none, .none, .bool false, .none] } : Obj) → Q (.ref (s.heap.objs.size + 1)) { s with heap := h' }) :
    wpAny (model X.prog X.w) X.A (call (.ref C) []) Q X.xe s := by
  obtain ⟨nm, q, N, bs, bm, sn, sub, ab, col, dd, k0, k1, k2, k3, k5, hC, hbm⟩ := Z.T.cls
  obtain ⟨hp, g, dr, tk, os⟩ := s
  exact PySem.W.call_B PySem.F.excBase_Exception (fun Y => PySem.W.excTail_contains Y bm hbm) (I.kIn _ _ hC) (PySem.W.looks_findIn I.kIn Z.ini) (by simp) fun h' k e _ => h h' _ k e
/-- C() -/
theorem pe_ex0 {x : Str} {p pos : Pos} (Z : Ex0 X.K C) (hm : X.mg x = some (.ref C)) (hg : Gl X x := by rfl) (hdb : (x == ("__debug__" : Str)) = false := by decide) :
    PE X (.Call (.Name x p) [] [] pos) (fun _ H Q => ∀ a, H a = none → Q (.ref a) (upd H a (exo a C none))) := by
  refine ⟨fun pins s σ H Q I h => ?_⟩
  refine wpAny_Call_Name_kw (ld_glob I hg hm ?_ hdb)
  refine PySem.W.callWith_K0 (K := X.K) I.kIn Z.T.kC ?_
  have hn : H (s.heap.objs.size + 1) = none := I.hok.fresh (Nat.le_succ _)
  exact run_ex0 Z I fun h' t1 k e => ⟨.ref (s.heap.objs.size + 1), _, I.laid (t' := s.toks) (a := s.heap.objs.size + 1) k (Nat.le_succ _) (exo_ok e), rfl, h _ hn⟩
/-- raise C(): what makes it -/
theorem pmk_ex0 {x : Str} {p pos : Pos} (Z : Ex0 X.K C) (hm : X.mg x = some (.ref C)) (hg : Gl X x := by rfl) (hdb : (x == ("__debug__" : Str)) = false := by decide) :
    PMk X (.Call (.Name x p) [] [] pos) (fun _ H Q => Q (.ref C) none H) := by
  intro pins s σ H Q I h
  refine wpAny_Call_Name_kw (ld_glob I hg hm ?_ hdb)
  refine PySem.W.callWith_K0 (K := X.K) I.kIn Z.T.kC ?_
  have hn : H (s.heap.objs.size + 1) = none := I.hok.fresh (Nat.le_succ _)
  refine run_ex0 Z I fun h' t1 k e => ?_
  have ne : s.heap.get? (s.heap.objs.size + 1) = none := by
    cases q : s.heap.get? (s.heap.objs.size + 1) with
    | none => rfl
    | some o => exact absurd (Nat.lt_of_succ_lt (Heap.lt_size q)) (Nat.lt_irrefl _)
  exact ⟨s.heap.objs.size + 1, _, _, s, H, .ref C, none, rfl, I, k, ne, e, ⟨rfl, rfl⟩, rfl, rfl, hn, rfl, I.bare, raises_own Z.T.exC Z.T.tyC, h⟩
/-- isinstance(e, c), e pinned -/
def rIsP (K : PySem.W.Frag) (a D : Addr) : List V → Hp → VK → Prop := fun xs H Q => ∃ (c : V) (cv : Value) (b : Bool), xs = [.ref a, c] ∧ ClsV c cv ∧ PySem.W.kitOne K (.ref D) cv = some b ∧ Q (.bl b) H
theorem call_isP {p : Addr × Obj} {D : Addr} (T : OexE X.K D) (hp : p ∈ X.pn) (hz : Zc (.ref D) none p.2) (hf : ∃ vs, p.2.data = .fields vs) : CallR X (.builtin "isinstance") (rIsP X.K p.1 D) := by
  intro pins s σ H xs us Q I r h
  obtain ⟨c, cv, b, rfl, k, e, q⟩ := h
  obtain ⟨u1, u2, rfl, r1, r2⟩ := vals2 r
  have e2 := k.eq r2
  subst e2
  cases (show u1 = Value.ref p.1 from r1)
  have hcl : (PySem.W.clsIn X.K D).isSome = true := by
    obtain ⟨cd, hc, _⟩ := PySem.W.any_some T.hdC
    rw [hc] <;> rfl
  obtain ⟨hget, _⟩ := I.pin p (List.mem_append_left _ hp)
  obtain ⟨vs, hv⟩ := hf
  have J : PySem.W.InstAt s.heap p.1 p.2 D none := by
    refine ⟨hget, hz.1, ?_, ?_⟩
    · unfold PySem.W.notCls
      rw [hv] <;> rfl
    · rw [hz.2]; trivial
  exact PySem.W.kia_one (PySem.W.kitx_exc (od := none) hcl T.ga T.gg T.exC T.ca T.cn T.ct T.cm) I.kIn J e (fun z => nomatch z) fun tk => ⟨.bl b, H, I.tok tk, rfl, q⟩
end
end Vx
end L2

set_option Elab.async false
set_option linter.all false
set_option maxRecDepth 100000
set_option maxHeartbeats 4000000
namespace L2
namespace Vx
open PySem PySem.Spec PyProof.Rows _root_.Vx
/-! ### raise C(e), C an own class over Exception with an __init__ that stores its argument -/
section
variable {X : Cx} {C : Addr} {f : Str} {k : Nat} {x : Str} {e : Expr} {te : TE} {p pos : Pos}
def tMkE (C : Addr) (f : Str) (te : TE) : St → Hp → XK → Prop := fun σ H Q => tCons te tNil σ H fun vs H1 => ∃ v, vs = [v] ∧ ∀ d, H1 d = none → Q (.ref C) (some d) (upd H1 d (.xd [(f, v)]))
theorem pmk_exE (Z : ExK X.prog X.w X.K X.mg X.base C f k) (hr : Room (k + 1) X.A) (hm : X.mg x = some (.ref C)) (he : PE X e te) (hg : Gl X x := by rfl) (hdb : (x == ("__debug__" : Str)) = false := by decide)
    (hst : starEach [e] X.env = (false, eval e X.env) :: starEach [] X.env := by rfl) (hpl : (backTo pos (starEach [] X.env)).any (·.1) = false := by rfl) :
    PMk X (.Call (.Name x p) [e] [] pos) (tMkE C f te) := by
  intro pins s σ H Q I h
  obtain ⟨T, _, fI, fdI, iC, tI, F1, hb1, hb2⟩ := Z
  obtain ⟨nm, q, N, bs, bm, sn, sub, ab, col, dd, k0, k1, k2, k3, k5, hC, hbm⟩ := T.cls
  refine wpAny_Call_Name_kw (ld_glob I hg hm ?_ hdb)
  refine PySem.W.callWith_K (h₀ := X.base) I.ok.mod.kin T.kC (thn ((pa_cons (hs := hst) he pa_nil).run pos pins s σ H _ I h) fun us s1 ⟨vs, H1, I1, r1, v, ev, q1⟩ => ⟨I1.kIn, ?_⟩) hst hpl
  subst ev
  obtain ⟨u, rfl, r⟩ : ∃ u, us = [u] ∧ RelV v u := by
    cases r1 with
    | cons r rn =>
      cases rn
      exact ⟨_, rfl, r⟩
  show wpAny _ _ (call (.ref C) [u]) _ _ _
  obtain ⟨hp, g, dr, tk, os⟩ := s1
  have hsz : hp.objs.size ≤ hp.objs.size + 1 := Nat.le_succ _
  have hn : H1 (hp.objs.size + 1) = none := I1.hok.fresh hsz
  have kk : ∀ b o, hp.get? b = some o → (madeH hp [u] C).get? b = some o := fun b o e => Heap.get?_push_of_some _ (Heap.get?_push_of_some _ e)
  have hget : (madeH hp [u] C).get? (hp.objs.size + 1) = some (PySem.HandSPX.excO C hp.objs.size) := by heap_get
  have I2 : Inv X pins σ (upd H1 (hp.objs.size + 1) (exo (hp.objs.size + 1) C none)) ⟨madeH hp [u] C, g, dr, tk, os⟩ :=
    I1.laid (t' := tk) (a := hp.objs.size + 1) (o := exo (hp.objs.size + 1) C none) (h' := madeH hp [u] C) kk hsz (exo_ok hget)
  have hl : [u].length ≤ sizeLine := by rw [sizeLine_eq]; simp
  have hq : spInitE C f [.ref (hp.objs.size + 1), v] (upd H1 (hp.objs.size + 1) (exo (hp.objs.size + 1) C none)) (fun x H2 => x = .non ∧ ∃ (d : Addr) (fs : List (Str × V)), H2 (hp.objs.size + 1) = some (exo (hp.objs.size + 1) C (some d)) ∧ H2 d = some (exd d fs) ∧ H1 d = none ∧ Q (.ref C) (some d) (upd (del H2 (hp.objs.size + 1)) d (.xd fs))) (fun _ _ _ => False) := by
    refine ⟨_, v, rfl, upd_same, fun dx n ne => ⟨rfl, dx, [(f, v)], upd_same, by rw [upd_ne ne, upd_same], by rw [upd_ne ne] at n; exact n, ?_⟩⟩
    have nd : H1 dx = none := by rw [upd_ne ne] at n; exact n
    have e : upd (del (upd (upd (upd H1 (hp.objs.size + 1) (exo (hp.objs.size + 1) C none)) dx (exd dx [(f, v)])) (hp.objs.size + 1) (exo (hp.objs.size + 1) C (some dx))) (hp.objs.size + 1)) dx (.xd [(f, v)]) = upd H1 dx (.xd [(f, v)]) := by
      funext b
      by_cases b1 : b = dx
      · rw [b1, upd_same, upd_same]
      · rw [upd_ne b1, upd_ne b1]
        by_cases b2 : b = hp.objs.size + 1
        · rw [b2, del_same, hn]
        · rw [del_ne b2, upd_ne b2, upd_ne b1, upd_ne b2]
    rw [e]
    exact q1 dx nd
  have hbt : ∀ s' : Shared, BindsTo s' fdI ⟨.ref (hp.objs.size + 1) :: [u], []⟩ ((["self", f] : List Str).zip [.ref (hp.objs.size + 1), u]) := fun s' => hb1 s' _ _
  refine wpAny_call (call_ownK PySem.F.excBase_Exception (fun Y => PySem.W.excTail_contains Y bm hbm) (I1.kIn _ _ hC) hl (PySem.W.looks_findIn I1.kIn iC) (fun self => PySem.W.bind_fn I1.kIn self tI)
    (codeAny_mono (F1.run _ X.stack _ _ ⟨Value.ref (hp.objs.size + 1) :: [u], []⟩ [Value.ref (hp.objs.size + 1), u] [V.ref (hp.objs.size + 1), v] _ (fun _ _ _ => False) (hr.make C [u] []) (I2.env0.make C [u] []) (hbt _) (.cons rfl (.cons r .nil)) hq) fun r s' hq' => ?_))
  cases r with
  | error e => exact hq'.elim
  | ok fl =>
    cases fl with
    | ret u =>
      obtain ⟨v, H2, os2, bare2, un2, hok2, rv, ev, d, fs, ea, ed, hd1, q2⟩ := hq'
      subst ev
      obtain ⟨h2, g2, d2, t2, os'⟩ := s'
      exact ⟨rv, mk_end (raises_own T.exC T.tyC) I1 hsz kk un2 hok2 os2 bare2 ea ed hd1 q2⟩
    | next => exact False.elim hq'
    | brk => exact False.elim hq'
    | cont => exact False.elim hq'
end
end Vx
end L2
namespace L2
open PySem PySem.Spec PyProof.Rows
/-! ### o.m(..) within a try: what is raised is wished for at the slots as they stand -/
section
variable {X : Cx} {CX : CXT} {k : Nat} {f C : Addr} {fd : FuncData} {ps : List Str} {sp : Sp} {E : St → XK} {m : Str} {pos apos : Pos} {e o : Expr} {es : List Expr} {ta : TE} {t : TA}
def tMethAt (C : Addr) (m : Str) (sp : Sp) (E : St → XK) (ta : TE) (t : TA) : TE := fun σ H Q => ta σ H fun x H1 => ∃ a dx fs, x = .ref a ∧ H1 a = some (.ins C dx fs) ∧ fs.lookup m = none ∧ t σ H1 fun vs H2 => sp (x :: vs) H2 Q (E σ)
theorem pe_methAt {pl : Sem Bool} (he : PE X o ta) (c : Cls X.K C) (hm : Meth X.K C m f) (F : FnOk X.prog X.w X.K X.mg X.base CX k f fd ps sp) (hr : Room k X.A) (hb : Binds X.K fd ps []) (hx : ∀ σ, PassesAt CX X σ (E σ)) (ha : PA X (e :: es) t)
    (hst : starEach (e :: es) X.env = (false, eval e X.env) :: starEach es X.env := by rfl) (hpl : (backTo pos (starEach es X.env)).any (·.1) = false := by rfl)
    (ht : eval (.Call (.Attribute o m apos) (e :: es) [] pos) X.env = (do
      let ov ← eval o X.env
      standAt apos.atName
      let (f, first) ← holding [ov] (getMethod ov m pl)
      callWith pos f first (backTo pos (starEach (e :: es) X.env)) (backToKw pos (keywordEach [] X.env))) := by rfl) :
    PE X (.Call (.Attribute o m apos) (e :: es) [] pos) (tMethAt C m sp E ta t) := by
  refine ⟨fun pins s σ H Q I h => ?_⟩
  refine PySem.W.methodCall_KW (pl := pl) (thn (he.run pins s σ H _ I h) fun u s1 ⟨x, H1, I1, rx, a, dx, fs, ex, ea, l, q⟩ => ?_) ht
  subst ex
  obtain rfl : u = Value.ref a := rx
  refine getmeth_ok I1 ea c hm l ?_
  refine PySem.W.callWith_K (first := [.ref a]) (h₀ := X.base) I.ok.mod.kin hm.kp (thn (ha.run pos pins s1 σ H1 _ I1 q) fun us s2 ⟨vs, H2, I2, r, q2⟩ => ⟨I2.kIn, ?_⟩) hst hpl
  exact run_fnS (us := .ref a :: us) (vs := .ref a :: vs) F hr hb (hx σ) I2 (.cons rfl r) q2
theorem pe_methAt0 {pl : Sem Bool} (he : PE X o ta) (c : Cls X.K C) (hm : Meth X.K C m f) (F : FnOk X.prog X.w X.K X.mg X.base CX k f fd ps sp) (hr : Room k X.A) (hb : Binds X.K fd ps []) (hx : ∀ σ, PassesAt CX X σ (E σ))
    (ht : eval (.Call (.Attribute o m apos) [] [] pos) X.env = (do
      let ov ← eval o X.env
      standAt apos.atName
      let (f, first) ← holding [ov] (getMethod ov m pl)
      callWith pos f first (backTo pos (starEach [] X.env)) (backToKw pos (keywordEach [] X.env))) := by rfl) :
    PE X (.Call (.Attribute o m apos) [] [] pos) (tMethAt C m sp E ta tNil) := by
  refine ⟨fun pins s σ H Q I h => ?_⟩
  refine PySem.W.methodCall_KW (pl := pl) (thn (he.run pins s σ H _ I h) fun u s1 ⟨x, H1, I1, rx, a, dx, fs, ex, ea, l, q⟩ => ?_) ht
  subst ex
  obtain rfl : u = Value.ref a := rx
  refine getmeth_ok I1 ea c hm l ?_
  exact PySem.W.callWith_K0 (first := [.ref a]) I1.kIn hm.kp (by
    have go := run_fnS (us := [.ref a]) (vs := [.ref a]) F hr hb (hx σ) I1 (.cons rfl .nil) q
    exact go)
end
/-- a def that raises, called where it raises nothing -/
theorem passF {X : Cx} : Passes (L2.CX X.prog X.w) X (fun _ _ _ => False) := passes_call takes0 (fun _ _ _ _ h => h)
end L2

set_option Elab.async false
set_option linter.all false
set_option maxRecDepth 100000
set_option maxHeartbeats 2000000
namespace Vf
open PySem PySem.Spec PyProof.Rows L2 L2.Vx Vs Vm Vd
/-! ### Language._check_letters, Language._beside -/
abbrev sChk : Stmt := inClass clsL 7
abbrev sBes : Stmt := inClass clsL 8
abbrev nBes : List Str := ["self", "other", "rows", "pairs", "mine", "others", "one", "two"]
structure TxtO (K : PySem.W.Frag) (mg : Str → Option Value) (C CO : Addr) : Prop extends TxtLg K mg C where
  z : Ex0 K CO
  gO : mg "OtherLetters" = some (.ref CO)
  zip : mg "zip" = none
  tuple : mg "tuple" = none
  enu : mg "enumerate" = none
theorem TxtO.sd {K : PySem.W.Frag} {mg : Str → Option Value} {C CO : Addr} (T : TxtO K mg C CO) : TxtSd mg := ⟨T.len, T.zip, T.tuple⟩
theorem d2s_lay : ∀ bs : List (Bool × Bool), PyData.canLayAll0 (bs.map d2) = true
  | [] => rfl
  | p :: r => by
    have h : (d2 p).canLay0 = true := SeqAt.canLay_of_shaped (d2_shaped p)
    rw [List.map_cons]
    show ((d2 p).canLay0 && PyData.canLayAll0 (r.map d2)) = true
    rw [h, d2s_lay r]
    rfl
theorem d2_depth (b : Bool × Bool) : (d2 b).depth ≤ 1 := by
  obtain ⟨x, y⟩ := b
  simp [d2, PyData.depth, PyData.depthAll]
theorem d2s_depth : ∀ bs : List (Bool × Bool), PyData.depthAll (bs.map d2) ≤ 1
  | [] => Nat.zero_le _
  | p :: r => by
    rw [List.map_cons]
    simp only [PyData.depthAll]
    exact Nat.max_le.mpr ⟨d2_depth p, d2s_depth r⟩
theorem d2s_list (bs : List (Bool × Bool)) : SeqAt.shaped (.list (bs.map d2)) = true := by
  show (PyData.canLay0 _ && decide (_ ≤ 64)) = true
  rw [show (PyData.list (bs.map d2)).canLay0 = true from d2s_lay bs, Bool.true_and]
  have := d2s_depth bs
  exact decide_eq_true (by simp only [PyData.depth]; omega)
theorem d2s_tup (bs : List (Bool × Bool)) : SeqAt.shaped (.tuple (bs.map d2)) = true := by
  show (PyData.canLay0 _ && decide (_ ≤ 64)) = true
  rw [show (PyData.tuple (bs.map d2)).canLay0 = true from d2s_lay bs, Bool.true_and]
  have := d2s_depth bs
  exact decide_eq_true (by simp only [PyData.depth]; omega)
def spChk (C CO : Addr) : Sp := fun vs H Q E => ∃ (p p' : Addr) (a b : Str) (A B : List (List Nat)) (eA eB : List Nat), vs = [.ref p, .ref p'] ∧ LangL C H p a A eA ∧ LangL C H p' b B eB ∧ (a ≠ b → E (.ref CO) none H) ∧ (a = b → Q .non H)
def AnswAt (H : Hp) (l : Addr) (bs : List (Bool × Bool)) : Prop := ∃ vs, H l = some (.lst vs) ∧ NT H vs (bs.map b2)
/-- how a state's pair is answered -/
def answ (eA eB : List Nat) (p : Nat × Nat) : Bool × Bool := (decide (p.1 ∈ eA), decide (p.2 ∈ eB))
def spBes (C CO : Addr) : Sp := fun vs H Q E => ∃ (p p' : Addr) (a b : Str) (A B : List (List Nat)) (eA eB : List Nat), vs = [.ref p, .ref p'] ∧ LangL C H p a A eA ∧ LangL C H p' b B eB ∧ Mach A a.length eA ∧ Mach B b.length eB ∧ A.length * B.length ≤ 1000 ∧ (a ≠ b → E (.ref CO) none H) ∧
  (a = b → ∀ (t l : Addr) (vr : V) (ps : List (Nat × Nat)) (R : List (List Nat)) H', Same H H' → H' t = some (.tup [vr, .ref l]) → MRowsAt H' vr R → AnswAt H' l (ps.map (answ eA eB)) → Side A B a.length ps R → R.length = ps.length → Q (.ref t) H')
theorem flag_at {m : Nat} {e : List Nat} {i : Nat} (h : i < m) : ((flagsOf m e).map V.bl)[i]? = some (V.bl (decide (i ∈ e))) := by
  unfold flagsOf
  rw [List.getElem?_map, List.getElem?_map, List.getElem?_range h]
  rfl
section
variable {P : Program} {w : World} {K : PySem.W.Frag} {mg : Str → Option Value} {base : Heap} {C CO : Addr}
theorem scChk : FnScope ["self", "other"] ["self", "other"] (defScope sChk) := ⟨rfl, rfl, rfl, by decide +kernel, rfl, by decide +kernel, by decide +kernel⟩
theorem ok_chk {f : Addr} {fd : FuncData} (F : Fun K "_check_letters" "Language._check_letters" sChk f fd) (T : TxtO K mg C CO) : FnOk P w K mg base (L2.CX P w) 1 f fd ["self", "other"] (spChk C CO) := by
  refine F.okX scChk (fun vs H Q E h => ?_) (fun cdv A outer s H vs Q E hr h => ?_)
  · obtain ⟨p, p', a, b, A, B, eA, eB, rfl, _⟩ := h
    rfl
  obtain ⟨p, p', a, b, A', B, eA, eB, rfl, hA, hB, q1, q2⟩ := h
  refine ⟨_, (pss_one (ps_if (pt_cmpR op_ne (pe_fld (pv 0) rfl) (pe_fld (pv 1) rfl) (nomark _)) (pss_one (ps_raise rfl (takes_of rfl rfl rfl rfl) (pmk_ex0 T.z T.gO))) pss_nil)), ?_⟩
  obtain ⟨dx, vr, ve, h1, h2, h3⟩ := hA
  obtain ⟨dy, wr, we, g1, g2, g3⟩ := hB
  refine ⟨_, rfl, p, C, dx, _, _, rfl, h1, T.cl, T.nL, rfl, _, rfl, p', C, dy, _, _, rfl, g1, T.cl, T.nL, rfl, rfl, _, rfl, ?_⟩
  by_cases c : a = b
  · refine if_fl (by rw [decide_eq_true (congrArg V.str c)]; rfl) ?_
    exact q2 c
  · refine if_tr (by rw [decide_eq_false fun z => c (V.str.inj z)]; rfl) ?_
    exact q1 c
theorem scBes : FnScope nBes ["self", "other"] (defScope sBes) := ⟨rfl, rfl, rfl, by decide +kernel, rfl, by decide +kernel, by decide +kernel⟩
theorem ok_bes {f fC fS fF : Addr} {fd fdC fdS fdF : FuncData} (F : Fun K "_beside" "Language._beside" sBes f fd) (T : TxtO K mg C CO)
    (GC : FnOk P w K mg base (L2.CX P w) 1 fC fdC ["self", "other"] (spChk C CO)) (bC : Binds K fdC ["self", "other"] []) (mC : Meth K C "_check_letters" fC)
    (GS : FnOk P w K mg base CX0 1 fS fdS ["rows", "others"] spSide) (bS : Binds K fdS ["rows", "others"] []) (kS : PySem.W.keepIn K (.ref fS) = true) (mS : mg "side_by_side" = some (.ref fS))
    (GF : FnOk P w K mg base CX0 1 fF fdF ["many", "ends"] (spFlags K)) (bF : Binds K fdF ["many", "ends"] []) (kF : PySem.W.keepIn K (.ref fF) = true) (mF : mg "end_flags" = some (.ref fF)) :
    FnOk P w K mg base (L2.CX P w) 2 f fd ["self", "other"] (spBes C CO) := by
  refine F.okX scBes (fun vs H Q E h => ?_) (fun cdv Ar outer s H vs Q E hr h => ?_)
  · obtain ⟨p, p', a, b, A, B, eA, eB, rfl, _⟩ := h
    rfl
  obtain ⟨p, p', a, b, A, B, eA, eB, rfl, hA, hB, MA, MB, few, q1, q2⟩ := h
  refine ⟨_, (pss_cons (ps_expr (pe_meth (pv 0) T.cl mC GC hr bC .nil (passes_call (takes_of rfl rfl rfl rfl) (fun _ _ _ _ h => h)) (pa_cons (pv 1) pa_nil)))
    (pss_cons (ps_asg (pe_call GS hr rfl mS kS bS .nil pass0 (pa_cons (pe_fld (pv 0) rfl) (pa_cons (pe_fld (pv 1) rfl) pa_nil))) (pg_tup rfl (pgs_cons (pg_name (i := 2) scBes.nd rfl (Or.inl rfl)) (pgs_cons (pg_name (i := 3) scBes.nd rfl (Or.inl rfl)) pgs_nil))))
    (pss_cons (ps_set (i := 4) scBes.nd rfl (Or.inr rfl) (pe_call GF hr rfl mF kF bF .nil pass0 (pa_cons (pe_callB call_len_seq (by rfl) T.len PySem.boot_len (pa_cons (pe_fld (pv 0) rfl) pa_nil)) (pa_cons (pe_fld (pv 0) rfl) pa_nil))))
    (pss_cons (ps_set (i := 5) scBes.nd rfl (Or.inr rfl) (pe_call GF hr rfl mF kF bF .nil pass0 (pa_cons (pe_callB call_len_seq (by rfl) T.len PySem.boot_len (pa_cons (pe_fld (pv 1) rfl) pa_nil)) (pa_cons (pe_fld (pv 1) rfl) pa_nil))))
    (pss_one (ps_ret (pe_tup (pa_cons (pv 2) (pa_cons (pe_lc (own := [("one", 6), ("two", 7)]) (g := gTup K 2 (gCons (gName 6) (gCons (gName 7) gNil))) (tt := tYes) rfl scBes.nd (pi_list (pv 3)) (blkOk_by (N := nBes) (sc := defScope sBes) (by decide +kernel))
      (fun _ _ _ _ _ => by exact (pg_tup rfl (pgs_cons (pg_name (i := 6) scBes.nd rfl (Or.inl rfl)) (pgs_cons (pg_name (i := 7) scBes.nd rfl (Or.inl rfl)) pgs_nil)))) (fun _ _ _ _ _ => pts_nil) (fun _ _ _ _ _ => by exact pe_tup (pa_cons (pe_ix (ixL_at (K := K) rfl) (pv 4) (pv 6) (fun _ _ => rfl)) (pa_cons (pe_ix (ixL_at (K := K) rfl) (pv 5) (pv 7) (fun _ _ => rfl)) pa_nil)))) pa_nil))))))))), ?_⟩
  have hA' := id hA
  have hB' := id hB
  obtain ⟨dx, vr, ve, h1, h2, h3⟩ := hA
  obtain ⟨dy, wr, we, g1, g2, g3⟩ := hB
  refine ⟨_, rfl, p, dx, _, rfl, h1, rfl, _, rfl, p, p', a, b, A, B, eA, eB, rfl, hA', hB', q1, fun c => ?_⟩
  subst c
  refine ⟨_, rfl, p, C, dx, _, _, rfl, h1, T.cl, T.nR, rfl, _, rfl, p', C, dy, _, _, rfl, g1, T.cl, T.nR, rfl, vr, wr, A, B, a.length, rfl, h2, g2, MA.sq, MB.sq, few, fun t l vq ps R H1 s1 et hR hP S eR => ?_⟩
  refine ⟨t, _, rfl, SqT.of et, rfl, _, _, rfl, _, _, rfl, rfl, ?_⟩
  have pl := S.few
  have fA := MA.sq.few
  have fB := MB.sq.few
  have h1' := s1 _ _ h1
  have g1' := s1 _ _ g1
  have h2' := h2.same s1
  have g2' := g2.same s1
  obtain ⟨ra, rbs, erv, hra, hN⟩ := h2'.at_
  obtain ⟨oa, obs, ewr, hoa, hM⟩ := g2'.at_
  refine ⟨_, rfl, p, C, dx, _, _, rfl, h1', T.cl, T.nR, rfl, ra, rbs, by rw [erv], .inr (SqT.of hra), _, rfl, p, C, dx, _, _, rfl, h1', T.cl, T.nE, rfl, A.length, ve, eA, by rw [hN.1]; rfl, (h3.same s1).T, MA.lt, by omega, fun l1 H2 s2 n1 e1 => ?_⟩
  refine ⟨_, rfl, p', C, dy, _, _, rfl, s2 _ _ g1', T.cl, T.nR, rfl, oa, obs, by rw [ewr], .inr (SqT.of (s2 _ _ hoa)), _, rfl, p', C, dy, _, _, rfl, s2 _ _ g1', T.cl, T.nE, rfl, B.length, we, eB, by rw [hM.1]; rfl, (g3.same (s1.trans s2)).T, MB.lt, by omega, fun l2 H3 s3 n2 e2 => ?_⟩
  have e1' := s3 _ _ e1
  obtain ⟨bs, hl, hNP⟩ := hP
  have s23 := s2.trans s3
  have hl' := s23 _ _ hl
  have hNP' := hNP.tk (tk_same s23)
  refine ⟨_, rfl, _, rfl, l, rfl, ⟨bs, SqL.of hl'⟩, fun D hD => ?_⟩
  refine lc_it (walk_list (xs := bs)) (fun i H' => ∃ vs, H' D = some (.lst vs) ∧ NT H' vs (((ps.take i).map (answ eA eB)).map b2) ∧ Same H3 H') ⟨[], upd_same, NT.nil _, same_new hD _⟩ (fun i H' _ ⟨_, _, _, s⟩ => SqL.of (s _ _ hl')) ?_ ?_
  · rintro i v H5 H6 hi ⟨vs, u1, u2, s5⟩ ⟨rfl, hv⟩
    have hip : i < ps.length := by rw [← hNP.1]; exact hi
    obtain ⟨p0, hp0⟩ : ∃ p0, ps[i]? = some p0 := ⟨_, List.getElem?_eq_getElem hip⟩
    obtain ⟨q0, hq1, hq2⟩ := hNP'.get hp0
    rw [hv] at hq1
    obtain rfl := Option.some.inj hq1
    obtain ⟨lt1, lt2⟩ := S.lt p0 (List.mem_of_getElem? hp0)
    refine ⟨q0, _, rfl, SqT.of (s5 _ _ hq2), rfl, _, _, rfl, _, _, rfl, rfl, rfl, ?_⟩
    refine ⟨_, rfl, _, rfl, l1, _, _, _, rfl, rfl, SqL.of (s5 _ _ e1'), atI_nat (flag_at lt1), _, rfl, _, rfl, l2, _, _, _, rfl, rfl, SqL.of (s5 _ _ e2), atI_nat (flag_at lt2), (by show 2 ≤ sizeLine; decide), fun tq htq => ?_⟩
    have st := same_new htq (.tup [V.bl (decide (p0.1 ∈ eA)), V.bl (decide (p0.2 ∈ eB))])
    have u1' := st _ _ u1
    refine ⟨vs, u1', ?_, vs ++ [.ref tq], upd_same, ?_, fun b' o' e' => ?_⟩
    · rw [u2.1, List.length_map, List.length_map]
      refine Nat.lt_of_le_of_lt (List.length_take_le' _ _) ?_
      rw [sizeLine_eq]
      omega
    · rw [List.take_add_one, hp0]
      show NT _ _ (((ps.take i ++ [p0]).map (answ eA eB)).map b2)
      rw [List.map_append, List.map_append]
      exact (((u2.tups (tk_same st)).snoc (c := b2 (answ eA eB p0)) upd_same).tups (tk_put u1' _))
    · rw [upd_ne (ne_of_none e' hD)]
      exact st _ _ (s5 _ _ e')
  rintro H5 ⟨vs, u1, u2, s5⟩
  rw [hNP.1, List.take_length] at u2
  refine ⟨(by show 2 ≤ sizeLine; decide), fun tv htv => ?_⟩
  have sv := same_new htv (.tup [vq, .ref D])
  have sAll := (s23.trans s5).trans sv
  exact q2 rfl tv D vq ps R _ (s1.trans sAll) upd_same (hR.same sAll) ⟨vs, sv _ _ u1, u2.tups (tk_same sv)⟩ S eR
end
end Vf

set_option Elab.async false
set_option linter.all false
set_option maxRecDepth 100000
set_option maxHeartbeats 2000000
namespace Vf
open PySem PySem.Spec PyProof.Rows L2 L2.Vx Vs
/-! ### languages made, by their machines (the same rows as in x5) -/
theorem asc_of : ∀ {xs : List Nat}, xs.Pairwise (· < ·) → ascN xs = true
  | [], _ => rfl
  | [a], _ => rfl
  | a :: b :: r, h => by
    have ih := asc_of (List.pairwise_cons.mp h).2
    have e : ascN (a :: b :: r) = (decide (a < b) && ascN (b :: r)) := by
      unfold ascN
      rw [show (a :: b :: r).length - 1 = (b :: r).length - 1 + 1 from rfl, List.range_succ_eq_map, List.map_cons, List.all_cons, List.map_map]
      rfl
    rw [e, ih, Bool.and_true]
    exact decide_eq_true ((List.pairwise_cons.mp h).1 b (List.mem_cons_self ..))
/-- a language is made -/
theorem lang_make {C : Addr} {H : Hp} {R : VK} {E : XK} {a : Str} {v1 v2 : V} {A : List (List Nat)} {e : List Nat} (M : Mach A a.length e) (hl : letB a = true) (h8 : ∀ c ∈ cp a, c < 128) (hR : MRowsAt H v1 A) (hE : NatsAt H v2 e)
    {x dx : Addr} (hx : H x = none) (hdx : H dx = none) (hne : dx ≠ x)
    (k : ∀ (B : List (List Nat)) (eB : List Nat) (H' : Hp), Same H H' → LangL C H' x a B eB → Least B a.length eB → (∀ w : List Nat, (∀ i ∈ w, i < a.length) → (led B w 0 ∈ eB ↔ led A w 0 ∈ e)) → R .non H') :
    spLMake C (.ref x :: ([.str a, v1, v2] ++ [])) (upd (upd H dx (.own x)) x (.ins C dx [])) R E := by
  have t1 : TK H (upd (upd H dx (.own x)) x (.ins C dx [])) := fun b ys h => by
    rw [upd_ne (ne_of_none h hx), upd_ne (ne_of_none h hdx)]
    exact h
  have el := nodup_lt _ _ M.nodup M.lt
  have few := M.sq.few
  refine ⟨x, dx, a, v1, v2, A, e, rfl, upd_same, hl, h8, hR.tk t1, hE.tk t1, M.sq, M.lt, by omega, asc_of M.up, fun B eB H' hL L1 L2 kp => k B eB H' (fun b o h => ?_) hL L1 L2⟩
  have nb := ne_of_none h hx
  refine kp b o nb ?_
  rw [upd_ne nb, upd_ne (ne_of_none h hdx)]
  exact h
theorem lang_eq {k : Nat} {A A' B B' : List (List Nat)} {e e' eB eB' : List Nat} (h1 : Least B k eB) (h2 : Least B' k eB') (l1 : ∀ w : List Nat, (∀ i ∈ w, i < k) → (led B w 0 ∈ eB ↔ led A w 0 ∈ e)) (l2 : ∀ w : List Nat, (∀ i ∈ w, i < k) → (led B' w 0 ∈ eB' ↔ led A' w 0 ∈ e'))
    (s : ∀ w : List Nat, (∀ i ∈ w, i < k) → (led A w 0 ∈ e ↔ led A' w 0 ∈ e')) : B = B' ∧ eB = eB' :=
  least_uniq h1 h2 fun w hw => ((l1 w hw).trans (s w hw)).trans (l2 w hw).symm
theorem least_mach {B : List (List Nat)} {k : Nat} {eB : List Nat} (h : Least B k eB) : Mach B k eB := by
  have z := h.ends
  refine ⟨h.sq, fun x hx => ?_, ?_⟩
  · rw [z] at hx
    exact List.mem_range.mp (List.mem_filter.mp hx).1
  · rw [z]
    exact List.Pairwise.filter _ List.pairwise_lt_range
end Vf

set_option Elab.async false
set_option linter.all false
set_option maxRecDepth 100000
set_option maxHeartbeats 2000000
namespace Vf
open PySem PySem.Spec PyProof.Rows L2 L2.Vx Vs Vm Vd
/-! ### Language._answered -/
abbrev sAns : Stmt := inClass clsL 9
abbrev nAns : List Str := ["self", "other", "wanted", "rows", "answers", "state", "pair"]
theorem least_le {A B : List (List Nat)} {k : Nat} {e eB : List Nat} (h : Least B k eB) (sq : Square A k) (same : ∀ w : List Nat, (∀ a ∈ w, a < k) → (led B w 0 ∈ eB ↔ led A w 0 ∈ e)) : B.length ≤ A.length := by
  have hw : ∀ p, ∃ w : List Nat, p < B.length → (∀ a ∈ w, a < k) ∧ led B w 0 = p := fun p => by
    by_cases c : p < B.length
    · obtain ⟨w, h1, h2⟩ := h.met.2 p (List.mem_range.mpr c)
      exact ⟨w, fun _ => ⟨h1, h2⟩⟩
    · exact ⟨[], fun z => absurd z c⟩
  have hf : ∃ f : Nat → List Nat, ∀ p, p < B.length → (∀ a ∈ f p, a < k) ∧ led B (f p) 0 = p := ⟨fun p => Classical.choose (hw p), fun p => Classical.choose_spec (hw p)⟩
  obtain ⟨f, hf⟩ := hf
  have z := nodup_lt A.length ((List.range B.length).map fun p => led A (f p) 0) ?_ fun x hx => ?_
  · rw [List.length_map, List.length_range] at z
    exact z
  · refine List.pairwise_map.mpr (List.Pairwise.imp_of_mem (fun {p q} hp hq ne z => ne ?_) List.nodup_range)
    obtain ⟨p1, p2⟩ := hf p (List.mem_range.mp hp)
    obtain ⟨q1, q2⟩ := hf q (List.mem_range.mp hq)
    refine h.parted p q (List.mem_range.mp hp) (List.mem_range.mp hq) fun w hw => ?_
    have a := same (f p ++ w) (app_lt p1 hw)
    have b := same (f q ++ w) (app_lt q1 hw)
    rw [led_app, led_app, p2] at a
    rw [led_app, led_app, q2] at b
    rw [a, b, z]
  · obtain ⟨p, hp, rfl⟩ := List.mem_map.mp hx
    exact led_lt sq _ _ (hf p (List.mem_range.mp hp)).1 sq.some
/-- a language over a with its least machine -/
structure LG (C : Addr) (H : Hp) (p : Addr) (a : Str) (A : List (List Nat)) (e : List Nat) : Prop where
  at_ : LangL C H p a A e
  ok : Least A a.length e
structure Abc (a : Str) : Prop where
  lets : letB a = true
  asc : ∀ c ∈ cp a, c < 128
theorem LG.same {C : Addr} {H H' : Hp} {p : Addr} {a : Str} {A : List (List Nat)} {e : List Nat} (h : LG C H p a A e) (s : Same H H') : LG C H' p a A e := ⟨h.at_.same s, h.ok⟩
theorem LG.mach {C : Addr} {H : Hp} {p : Addr} {a : Str} {A : List (List Nat)} {e : List Nat} (h : LG C H p a A e) : Mach A a.length e := least_mach h.ok
/-- the words of a machine -/
def Wd (A : List (List Nat)) (e w : List Nat) : Bool := decide (led A w 0 ∈ e)
/-- what two languages put together gives -/
def Made2 (C : Addr) (H : Hp) (a : Str) (A B : List (List Nat)) (eA eB : List Nat) (g : Bool → Bool → Bool) (Q : VK) : Prop := ∀ (q : Addr) (R : List (List Nat)) (eR : List Nat) H', Same H H' → LG C H' q a R eR →
  (∀ w : List Nat, (∀ i ∈ w, i < a.length) → Wd R eR w = g (Wd A eA w) (Wd B eB w)) → R.length ≤ A.length * B.length → Q (.ref q) H'
def WantAt (H : Hp) (v : V) (ws : List (Bool × Bool)) : Prop := ∃ t vs, v = .ref t ∧ H t = some (.tup vs) ∧ NT H vs (ws.map b2)
def spAns (C CO : Addr) : Sp := fun vs H Q E => ∃ (p p' : Addr) (v : V) (a b : Str) (A B : List (List Nat)) (eA eB : List Nat) (ws : List (Bool × Bool)), vs = [.ref p, .ref p', v] ∧ LG C H p a A eA ∧ LG C H p' b B eB ∧ Abc a ∧ A.length * B.length ≤ 1000 ∧ WantAt H v ws ∧
  (a ≠ b → E (.ref CO) none H) ∧ (a = b → Made2 C H a A B eA eB (fun x y => decide ((x, y) ∈ ws)) Q)
section
variable {P : Program} {w : World} {K : PySem.W.Frag} {mg : Str → Option Value} {base : Heap} {C CO : Addr}
theorem scAns : FnScope nAns ["self", "other", "wanted"] (defScope sAns) := ⟨rfl, rfl, rfl, by decide +kernel, rfl, by decide +kernel, by decide +kernel⟩
theorem ok_ans {f fB fI : Addr} {fd fdB fdI : FuncData} (F : Fun K "_answered" "Language._answered" sAns f fd) (T : TxtO K mg C CO) (gL : mg "Language" = some (.ref C))
    (GB : FnOk P w K mg base (L2.CX P w) 2 fB fdB ["self", "other"] (spBes C CO)) (bB : L2.Binds K fdB ["self", "other"] []) (mB : Meth K C "_beside" fB)
    (M : Mk K C fI) (GI : FnOk P w K mg base CX0 5 fI fdI ["self", "letters", "rows", "ends"] (spLMake C)) (bI : L2.Binds K fdI ["self", "letters", "rows", "ends"] []) :
    FnOk P w K mg base (L2.CX P w) 7 f fd ["self", "other", "wanted"] (spAns C CO) := by
  refine F.okX scAns (fun vs H Q E h => ?_) (fun cdv Ar outer s H vs Q E hr h => ?_)
  · obtain ⟨p, p', v, a, b, A, B, eA, eB, ws, rfl, _⟩ := h
    rfl
  obtain ⟨p, p', v, a, b, A, B, eA, eB, ws, rfl, hA, hB, hX, few, hW, q1, q2⟩ := h
  have hr2 : Room 2 _ := hr.mono (by decide)
  have hu65 : (Ar.deeper (envOfC "Language._answered" (defScope sAns) s.heap.objs.size f cdv)).units + 65 < cLine := by
    have z := hr.un
    omega
  refine ⟨_, (pss_cons (ps_asg (pe_meth (pv 0) T.cl mB GB hr2 bB .nil (passes_call (takes_of rfl rfl rfl rfl) (fun _ _ _ _ h => h)) (pa_cons (pv 1) pa_nil)) (pg_tup rfl (pgs_cons (pg_name (i := 3) scAns.nd rfl (Or.inl rfl)) (pgs_cons (pg_name (i := 4) scAns.nd rfl (Or.inl rfl)) pgs_nil))))
    (pss_one (ps_ret (pe_make M GI hr (by rfl) gL bI .nil pass0 (pa_cons (pe_fld (pv 0) rfl) (pa_cons (pv 3) (pa_cons (pe_callTy call_tuple_of (by rfl) T.tuple (by decide +kernel) (pa_cons (pe_lc (own := [("state", 5), ("pair", 6)]) (g := gTup K 2 (gCons (gName 5) (gCons (gName 6) gNil))) (tt := _) rfl scAns.nd (pi_enum (by rfl) T.enu (pa_cons (pv 4) pa_nil)) (blkOk_by (N := nAns) (sc := defScope sAns) (by decide +kernel))
      (fun _ _ _ _ _ => by exact (pg_tup rfl (pgs_cons (pg_name (i := 5) scAns.nd rfl (Or.inl rfl)) (pgs_cons (pg_name (i := 6) scAns.nd rfl (Or.inl rfl)) pgs_nil)))) (fun _ _ _ _ _ => by exact pts_one (pt_cmpR (inT_at (K := K) rfl hu65) (pv 6) (pv 2) (by rfl))) (fun _ _ _ _ _ => by exact pv 5)) pa_nil)) pa_nil))))))), ?_⟩
  obtain ⟨dx, vr, ve, h1, h2, h3⟩ := id hA.at_
  refine ⟨_, rfl, p, dx, _, rfl, h1, rfl, _, rfl, p, p', a, b, A, B, eA, eB, rfl, hA.at_, hB.at_, hA.mach, hB.mach, few, q1, fun c t l vq ps R H1 s1 et hR hP S eR => ?_⟩
  subst c
  have pl := S.few
  refine ⟨t, _, rfl, SqT.of et, rfl, _, _, rfl, _, _, rfl, rfl, ?_⟩
  obtain ⟨ls, hl, hN⟩ := hP
  obtain ⟨tw, vw, rfl, ht, hWN⟩ := hW
  have h1' := s1 _ _ h1
  have ht' := s1 _ _ ht
  have hWN' := hWN.tups (tk_same s1)
  have nl : ls.length = ps.length := by rw [hN.1, List.length_map, List.length_map]
  refine ⟨_, rfl, p, C, dx, _, _, rfl, h1', T.cl, T.nL, rfl, _, rfl, _, rfl, l, _, rfl, SqL.of hl, fun D hD => ?_⟩
  have gf : ∀ i p0, ps[i]? = some p0 → ps.getD i (0, 0) = p0 := fun i p0 h => by rw [List.getD_eq_getElem?_getD, h]; rfl
  refine lc_it walk_enum (fun i H' => H' D = some (.lst (((List.range i).filter fun j => decide (answ eA eB (ps.getD j (0, 0)) ∈ ws)).map nI)) ∧ Same H1 H') ⟨upd_same, same_new hD _⟩ (fun i H' _ ⟨_, s⟩ => s.seq (SqL.of hl)) ?_ ?_
  · rintro i x H5 H6 hi ⟨u1, s5⟩ ⟨T1, x1, y1, rfl, hT, rfl, e1', e2⟩
    obtain rfl : V.int (i : Nat) = x1 := Option.some.inj e1'
    have hip : i < ps.length := by rw [← nl]; exact hi
    obtain ⟨p0, hp0⟩ : ∃ p0, ps[i]? = some p0 := ⟨_, List.getElem?_eq_getElem hip⟩
    have hc : ((ps.map (answ eA eB)).map b2)[i]? = some (b2 (answ eA eB p0)) := by rw [List.getElem?_map, List.getElem?_map, hp0]; rfl
    obtain ⟨q0, hq1, hq2⟩ := hN.get hc
    have e2' : ls[i]? = some y1 := e2
    rw [hq1] at e2'
    obtain rfl := Option.some.inj e2'
    have sT := same_new hT (.tup [V.int (i : Nat), V.ref q0])
    have s6 := s5.trans sT
    have u1' := sT _ _ u1
    have g0 := gf i p0 hp0
    refine ⟨T1, _, rfl, SqT.of upd_same, rfl, _, _, rfl, _, _, rfl, rfl, rfl, _, rfl, _, rfl, d2 (answ eA eB p0), ws.map d2, dp_b2 (SqT.of (s6 _ _ hq2)), .tup (SqT.of (s6 _ _ ht')) (dps_d2 (hWN'.tups (tk_same s6))), d2_shaped _, d2s_tup ws, _, rfl, ?_⟩
    rw [any_d2]
    generalize upd H5 T1 (.tup [V.int (i : Nat), V.ref q0]) = H6 at u1' s6 ⊢
    refine ite2 (fun c => ⟨_, rfl, _, u1', ?_, ?_, fun b u e => ?_⟩) (fun c => ⟨?_, s6⟩)
    · rw [List.length_map]
      refine Nat.lt_of_le_of_lt (List.length_filter_le _ _) ?_
      rw [List.length_range, sizeLine_eq]
      omega
    · rw [upd_same, List.range_succ, List.filter_append, List.map_append]
      rw [show ([i].filter fun j => decide (answ eA eB (ps.getD j (0, 0)) ∈ ws)) = [i] by rw [List.filter_cons, g0]; rw [if_pos c]; rfl]
      rfl
    · rw [upd_ne (ne_of_none e hD)]
      exact s6 b u e
    · rw [u1', List.range_succ, List.filter_append]
      rw [show ([i].filter fun j => decide (answ eA eB (ps.getD j (0, 0)) ∈ ws)) = [] by rw [List.filter_cons, g0]; rw [if_neg c]; rfl]
      rw [List.append_nil]
  rintro H5 ⟨u1, s5⟩
  rw [nl] at u1
  have u1 : H5 D = some (.lst ((endsBy ps fun p => decide (answ eA eB p ∈ ws)).map nI)) := u1
  refine ⟨D, _, rfl, .inl ⟨SqL.of u1, fun te hte => ?_⟩⟩
  have st := same_new hte (.tup ((endsBy ps fun p => decide (answ eA eB p ∈ ws)).map nI))
  have s15 := s5.trans st
  have MR := S.mach eR hA.ok.sq.thin few fun p => decide (answ eA eB p ∈ ws)
  refine fun x px hx hpx hpne => lang_make MR hX.lets hX.asc (hR.same s15) ⟨te, rfl, upd_same⟩ hx hpx hpne fun B1 e1 H2 s2 hL K1 K2 => ⟨rfl, ?_⟩
  refine q2 rfl x B1 e1 H2 ((s1.trans s15).trans s2) ⟨hL, K1⟩ (fun w hw => ?_) ?_
  · have z := (K2 w hw).trans (S.lang eR (fun p => decide (answ eA eB p ∈ ws)) hw)
    unfold Wd
    rw [Bool.eq_iff_iff, decide_eq_true_iff]
    exact z
  · have z := least_le K1 MR.sq K2
    omega
end
end Vf

set_option Elab.async false
set_option linter.all false
set_option maxRecDepth 100000
set_option maxHeartbeats 2000000
namespace Vf
open PySem PySem.Spec PyProof.Rows L2 L2.Vx Vs Vm Vd
/-! ### a | b, a & b, a - b, a <= b, ~a, a + b refused, with_letters -/
abbrev sLe : Stmt := inClass clsL 10
abbrev sOr : Stmt := inClass clsL 11
abbrev sAnd : Stmt := inClass clsL 12
abbrev sSub : Stmt := inClass clsL 13
abbrev sInv : Stmt := inClass clsL 14
abbrev sAdd : Stmt := inClass clsL 15
abbrev sWit : Stmt := inClass clsL 19
abbrev nLe : List Str := ["self", "other", "_", "answers"]
abbrev nInv : List Str := ["self", "flags", "state", "flag"]
abbrev nAdd : List Str := ["self", "other", "rows", "ends"]
def spOp (C CO : Addr) (g : Bool → Bool → Bool) : Sp := fun vs H Q E => ∃ (p p' : Addr) (a b : Str) (A B : List (List Nat)) (eA eB : List Nat), vs = [.ref p, .ref p'] ∧ LG C H p a A eA ∧ LG C H p' b B eB ∧ Abc a ∧ A.length * B.length ≤ 1000 ∧
  (a ≠ b → ∀ H', Same H H' → E (.ref CO) none H') ∧ (a = b → Made2 C H a A B eA eB g Q)
def spLe (C CO : Addr) : Sp := fun vs H Q E => ∃ (p p' : Addr) (a b : Str) (A B : List (List Nat)) (eA eB : List Nat), vs = [.ref p, .ref p'] ∧ LG C H p a A eA ∧ LG C H p' b B eB ∧ A.length * B.length ≤ 1000 ∧
  (a ≠ b → E (.ref CO) none H) ∧ (a = b → ∀ (r : Bool) H', Same H H' → (r = true ↔ ∀ w : List Nat, (∀ i ∈ w, i < a.length) → Wd A eA w = true → Wd B eB w = true) → Q (.bl r) H')
def spInv (C : Addr) : Sp := fun vs H Q _ => ∃ (p : Addr) (a : Str) (A : List (List Nat)) (eA : List Nat), vs = [.ref p] ∧ LG C H p a A eA ∧ Abc a ∧
  ∀ (q : Addr) (R : List (List Nat)) (eR : List Nat) H', Same H H' → LG C H' q a R eR → (∀ w : List Nat, (∀ i ∈ w, i < a.length) → Wd R eR w = !Wd A eA w) → R.length ≤ A.length → Q (.ref q) H'
def spAdd (C CO : Addr) : Sp := fun vs H Q E => ∃ (p p' : Addr) (a b : Str) (A B : List (List Nat)) (eA eB : List Nat), vs = [.ref p, .ref p'] ∧ LG C H p a A eA ∧ LG C H p' b B eB ∧ a ≠ b ∧ E (.ref CO) none H
def spWit (C : Addr) : Sp := fun vs H Q _ => ∃ (p : Addr) (a b : Str) (A : List (List Nat)) (eA : List Nat), vs = [.ref p, .str b] ∧ LG C H p a A eA ∧ Abc b ∧ b.length = a.length ∧
  ∀ (q : Addr) (R : List (List Nat)) (eR : List Nat) H', Same H H' → LG C H' q b R eR → (∀ w : List Nat, (∀ i ∈ w, i < a.length) → Wd R eR w = Wd A eA w) → R.length ≤ A.length → Q (.ref q) H'
section
variable {P : Program} {w : World} {K : PySem.W.Frag} {mg : Str → Option Value} {base : Heap} {C CO : Addr}
theorem made2_g {H : Hp} {a : Str} {A B : List (List Nat)} {eA eB : List Nat} {g g' : Bool → Bool → Bool} {Q : VK} (h : Made2 C H a A B eA eB g Q) (e : ∀ x y, g' x y = g x y) {H1 : Hp} (s : Same H H1) : Made2 C H1 a A B eA eB g' Q :=
  fun q R eR H' s' hL hw hl => h q R eR H' (s.trans s') hL (fun w hww => (hw w hww).trans (e _ _)) hl
theorem scOr : FnScope ["self", "other"] ["self", "other"] (defScope sOr) := ⟨rfl, rfl, rfl, by decide +kernel, rfl, by decide +kernel, by decide +kernel⟩
theorem scAnd : FnScope ["self", "other"] ["self", "other"] (defScope sAnd) := ⟨rfl, rfl, rfl, by decide +kernel, rfl, by decide +kernel, by decide +kernel⟩
theorem scSub : FnScope ["self", "other"] ["self", "other"] (defScope sSub) := ⟨rfl, rfl, rfl, by decide +kernel, rfl, by decide +kernel, by decide +kernel⟩
theorem ok_or {f fA : Addr} {fd fdA : FuncData} (F : Fun K "__or__" "Language.__or__" sOr f fd) (T : TxtO K mg C CO)
    (GA : FnOk P w K mg base (L2.CX P w) 7 fA fdA ["self", "other", "wanted"] (spAns C CO)) (bA : L2.Binds K fdA ["self", "other", "wanted"] []) (mA : Meth K C "_answered" fA) :
    FnOk P w K mg base (L2.CX P w) 8 f fd ["self", "other"] (spOp C CO fun x y => x || y) := by
  refine F.okX scOr (fun vs H Q E h => ?_) (fun cdv Ar outer s H vs Q E hr h => ?_)
  · obtain ⟨p, p', a, b, A, B, eA, eB, rfl, _⟩ := h
    rfl
  obtain ⟨p, p', a, b, A, B, eA, eB, rfl, hA, hB, hX, few, q1, q2⟩ := h
  refine ⟨_, (pss_one (ps_ret (pe_meth (pv 0) T.cl mA GA hr bA .nil (passes_call (takes_of rfl rfl rfl rfl) (fun _ _ _ _ h => h)) (pa_cons (pv 1) (pa_cons (pe_tup (pa_cons (pe_tup (pa_cons pe_bl (pa_cons pe_bl pa_nil))) (pa_cons (pe_tup (pa_cons pe_bl (pa_cons pe_bl pa_nil))) (pa_cons (pe_tup (pa_cons pe_bl (pa_cons pe_bl pa_nil))) pa_nil)))) pa_nil))))), ?_⟩
  obtain ⟨dx, vr, ve, h1, h2, h3⟩ := id hA.at_
  refine ⟨_, rfl, p, dx, _, rfl, h1, rfl, _, rfl, (by show 2 ≤ sizeLine; decide), fun t1 n1 => ⟨(by show 2 ≤ sizeLine; decide), fun t2 n2 => ⟨(by show 2 ≤ sizeLine; decide), fun t3 n3 => ⟨(by show 3 ≤ sizeLine; decide), fun t4 n4 => ?_⟩⟩⟩⟩
  have s1 := same_new n1 (.tup [V.bl true, V.bl true])
  have s2 := same_new n2 (.tup [V.bl true, V.bl false])
  have s3 := same_new n3 (.tup [V.bl false, V.bl true])
  have s4 := same_new n4 (.tup [V.ref t1, V.ref t2, V.ref t3])
  have ss := ((s1.trans s2).trans s3).trans s4
  refine ⟨p, p', .ref t4, a, b, A, B, eA, eB, [(true, true), (true, false), (false, true)], rfl, hA.same ss, hB.same ss, hX, few, ⟨t4, _, rfl, upd_same, ?_⟩, fun c => q1 c _ ss, fun c => made2_g (q2 c) (fun x y => by cases x <;> cases y <;> decide) ss⟩
  exact (((NT.nil _).snoc (c := b2 (true, true)) (s4 _ _ (s3 _ _ (s2 _ _ upd_same)))).snoc (c := b2 (true, false)) (s4 _ _ (s3 _ _ upd_same))).snoc (c := b2 (false, true)) (s4 _ _ upd_same)
theorem ok_and {f fA : Addr} {fd fdA : FuncData} (F : Fun K "__and__" "Language.__and__" sAnd f fd) (T : TxtO K mg C CO)
    (GA : FnOk P w K mg base (L2.CX P w) 7 fA fdA ["self", "other", "wanted"] (spAns C CO)) (bA : L2.Binds K fdA ["self", "other", "wanted"] []) (mA : Meth K C "_answered" fA) :
    FnOk P w K mg base (L2.CX P w) 8 f fd ["self", "other"] (spOp C CO fun x y => x && y) := by
  refine F.okX scAnd (fun vs H Q E h => ?_) (fun cdv Ar outer s H vs Q E hr h => ?_)
  · obtain ⟨p, p', a, b, A, B, eA, eB, rfl, _⟩ := h
    rfl
  obtain ⟨p, p', a, b, A, B, eA, eB, rfl, hA, hB, hX, few, q1, q2⟩ := h
  refine ⟨_, (pss_one (ps_ret (pe_meth (pv 0) T.cl mA GA hr bA .nil (passes_call (takes_of rfl rfl rfl rfl) (fun _ _ _ _ h => h)) (pa_cons (pv 1) (pa_cons (pe_tup (pa_cons (pe_tup (pa_cons pe_bl (pa_cons pe_bl pa_nil))) pa_nil)) pa_nil))))), ?_⟩
  obtain ⟨dx, vr, ve, h1, h2, h3⟩ := id hA.at_
  refine ⟨_, rfl, p, dx, _, rfl, h1, rfl, _, rfl, (by show 2 ≤ sizeLine; decide), fun t1 n1 => ⟨(by show 1 ≤ sizeLine; decide), fun t4 n4 => ?_⟩⟩
  have s1 := same_new n1 (.tup [V.bl true, V.bl true])
  have s4 := same_new n4 (.tup [V.ref t1])
  have ss := s1.trans s4
  refine ⟨p, p', .ref t4, a, b, A, B, eA, eB, [(true, true)], rfl, hA.same ss, hB.same ss, hX, few, ⟨t4, _, rfl, upd_same, ?_⟩, fun c => q1 c _ ss, fun c => made2_g (q2 c) (fun x y => by cases x <;> cases y <;> decide) ss⟩
  exact (NT.nil _).snoc (c := b2 (true, true)) (s4 _ _ upd_same)
theorem ok_sub {f fA : Addr} {fd fdA : FuncData} (F : Fun K "__sub__" "Language.__sub__" sSub f fd) (T : TxtO K mg C CO)
    (GA : FnOk P w K mg base (L2.CX P w) 7 fA fdA ["self", "other", "wanted"] (spAns C CO)) (bA : L2.Binds K fdA ["self", "other", "wanted"] []) (mA : Meth K C "_answered" fA) :
    FnOk P w K mg base (L2.CX P w) 8 f fd ["self", "other"] (spOp C CO fun x y => x && !y) := by
  refine F.okX scSub (fun vs H Q E h => ?_) (fun cdv Ar outer s H vs Q E hr h => ?_)
  · obtain ⟨p, p', a, b, A, B, eA, eB, rfl, _⟩ := h
    rfl
  obtain ⟨p, p', a, b, A, B, eA, eB, rfl, hA, hB, hX, few, q1, q2⟩ := h
  refine ⟨_, (pss_one (ps_ret (pe_meth (pv 0) T.cl mA GA hr bA .nil (passes_call (takes_of rfl rfl rfl rfl) (fun _ _ _ _ h => h)) (pa_cons (pv 1) (pa_cons (pe_tup (pa_cons (pe_tup (pa_cons pe_bl (pa_cons pe_bl pa_nil))) pa_nil)) pa_nil))))), ?_⟩
  obtain ⟨dx, vr, ve, h1, h2, h3⟩ := id hA.at_
  refine ⟨_, rfl, p, dx, _, rfl, h1, rfl, _, rfl, (by show 2 ≤ sizeLine; decide), fun t1 n1 => ⟨(by show 1 ≤ sizeLine; decide), fun t4 n4 => ?_⟩⟩
  have s1 := same_new n1 (.tup [V.bl true, V.bl false])
  have s4 := same_new n4 (.tup [V.ref t1])
  have ss := s1.trans s4
  refine ⟨p, p', .ref t4, a, b, A, B, eA, eB, [(true, false)], rfl, hA.same ss, hB.same ss, hX, few, ⟨t4, _, rfl, upd_same, ?_⟩, fun c => q1 c _ ss, fun c => made2_g (q2 c) (fun x y => by cases x <;> cases y <;> decide) ss⟩
  exact (NT.nil _).snoc (c := b2 (true, false)) (s4 _ _ upd_same)
theorem scLe : FnScope nLe ["self", "other"] (defScope sLe) := ⟨rfl, rfl, rfl, by decide +kernel, rfl, by decide +kernel, by decide +kernel⟩
theorem ok_le {f fB : Addr} {fd fdB : FuncData} (F : Fun K "__le__" "Language.__le__" sLe f fd) (T : TxtO K mg C CO)
    (GB : FnOk P w K mg base (L2.CX P w) 2 fB fdB ["self", "other"] (spBes C CO)) (bB : L2.Binds K fdB ["self", "other"] []) (mB : Meth K C "_beside" fB) :
    FnOk P w K mg base (L2.CX P w) 3 f fd ["self", "other"] (spLe C CO) := by
  refine F.okX scLe (fun vs H Q E h => ?_) (fun cdv Ar outer s H vs Q E hr h => ?_)
  · obtain ⟨p, p', a, b, A, B, eA, eB, rfl, _⟩ := h
    rfl
  obtain ⟨p, p', a, b, A, B, eA, eB, rfl, hA, hB, few, q1, q2⟩ := h
  have hu65 : (Ar.deeper (envOfC "Language.__le__" (defScope sLe) s.heap.objs.size f cdv)).units + 65 < cLine := by
    have z := hr.un
    omega
  refine ⟨_, (pss_cons (ps_asg (pe_meth (pv 0) T.cl mB GB hr bB .nil (passes_call (takes_of rfl rfl rfl rfl) (fun _ _ _ _ h => h)) (pa_cons (pv 1) pa_nil)) (pg_tup rfl (pgs_cons (pg_name (i := 2) scLe.nd rfl (Or.inl rfl)) (pgs_cons (pg_name (i := 3) scLe.nd rfl (Or.inl rfl)) pgs_nil))))
    (pss_one (ps_ret (pe_cmpR (op_notInD hu65) (pe_tup (pa_cons pe_bl (pa_cons pe_bl pa_nil))) (pv 3) (by rfl))))), ?_⟩
  obtain ⟨dx, vr, ve, h1, h2, h3⟩ := id hA.at_
  refine ⟨_, rfl, p, dx, _, rfl, h1, rfl, _, rfl, p, p', a, b, A, B, eA, eB, rfl, hA.at_, hB.at_, hA.mach, hB.mach, few, q1, fun c t l vq ps R H1 s1 et hR hP S eR => ?_⟩
  subst c
  refine ⟨t, _, rfl, SqT.of et, rfl, _, _, rfl, _, _, rfl, rfl, ?_⟩
  obtain ⟨ls, hl, hN⟩ := hP
  refine ⟨(by show 2 ≤ sizeLine; decide), fun tq htq => ?_⟩
  have st := same_new htq (.tup [V.bl true, V.bl false])
  refine ⟨_, rfl, d2 (true, false), (ps.map (answ eA eB)).map d2, dp_b2 (SqT.of upd_same), .lst (SqL.of (st _ _ hl)) (dps_d2 (hN.tups (tk_same st))), d2_shaped _, d2s_list _, ?_⟩
  rw [any_d2]
  refine q2 rfl _ _ (s1.trans st) ?_
  have z := S.all eR fun p => decide (answ eA eB p = (true, false))
  have y : (true, false) ∈ ps.map (answ eA eB) ↔ ∃ p ∈ ps, decide (answ eA eB p = (true, false)) = true := by
    rw [List.mem_map]
    exact ⟨fun ⟨p, h1, h2⟩ => ⟨p, h1, decide_eq_true h2⟩, fun ⟨p, h1, h2⟩ => ⟨p, h1, of_decide_eq_true h2⟩⟩
  rw [Bool.not_eq_true', decide_eq_false_iff_not, y, z]
  constructor
  · intro h w hw hA1
    cases hb : Wd B eB w with
    | true => rfl
    | false =>
      refine absurd ⟨w, hw, decide_eq_true ?_⟩ h
      show (Wd A eA w, Wd B eB w) = (true, false)
      rw [hA1, hb]
  · rintro h ⟨w, hw, e⟩
    have e' : (Wd A eA w, Wd B eB w) = (true, false) := of_decide_eq_true e
    have e1 := congrArg Prod.fst e'
    have e2 := congrArg Prod.snd e'
    have e3 := h w hw e1
    exact absurd (e2.symm.trans e3) (by decide)
theorem scInv : FnScope nInv ["self"] (defScope sInv) := ⟨rfl, rfl, rfl, by decide +kernel, rfl, by decide +kernel, by decide +kernel⟩
theorem ok_inv {f fF fI : Addr} {fd fdF fdI : FuncData} (F : Fun K "__invert__" "Language.__invert__" sInv f fd) (T : TxtO K mg C CO) (gL : mg "Language" = some (.ref C))
    (GF : FnOk P w K mg base CX0 1 fF fdF ["many", "ends"] (spFlags K)) (bF : L2.Binds K fdF ["many", "ends"] []) (kF : PySem.W.keepIn K (.ref fF) = true) (mF : mg "end_flags" = some (.ref fF))
    (M : Mk K C fI) (GI : FnOk P w K mg base CX0 5 fI fdI ["self", "letters", "rows", "ends"] (spLMake C)) (bI : L2.Binds K fdI ["self", "letters", "rows", "ends"] []) :
    FnOk P w K mg base CX0 7 f fd ["self"] (spInv C) := by
  refine F.ok scInv (fun vs H Q E h => ?_) (fun cdv Ar outer s H vs Q E hr h => ?_)
  · obtain ⟨p, a, A, eA, rfl, _⟩ := h
    rfl
  obtain ⟨p, a, A, eA, rfl, hA, hX, q⟩ := h
  have hr1 : Room 1 _ := hr.mono (by decide)
  refine ⟨_, (pss_cons (ps_set (i := 1) scInv.nd rfl (Or.inl rfl) (pe_call GF hr1 rfl mF kF bF .nil pass0 (pa_cons (pe_callB call_len_seq (by rfl) T.len PySem.boot_len (pa_cons (pe_fld (pv 0) rfl) pa_nil)) (pa_cons (pe_fld (pv 0) rfl) pa_nil))))
    (pss_one (ps_ret (pe_make M GI hr (by rfl) gL bI .nil pass0 (pa_cons (pe_fld (pv 0) rfl) (pa_cons (pe_fld (pv 0) rfl) (pa_cons (pe_callTy call_tuple_of (by rfl) T.tuple (by decide +kernel) (pa_cons (pe_lc (own := [("state", 2), ("flag", 3)]) (g := gTup K 2 (gCons (gName 2) (gCons (gName 3) gNil))) (tt := _) rfl scInv.nd (pi_enum (by rfl) T.enu (pa_cons (pv 1) pa_nil)) (blkOk_by (N := nInv) (sc := defScope sInv) (by decide +kernel))
      (fun _ _ _ _ _ => by exact (pg_tup rfl (pgs_cons (pg_name (i := 2) scInv.nd rfl (Or.inl rfl)) (pgs_cons (pg_name (i := 3) scInv.nd rfl (Or.inl rfl)) pgs_nil)))) (fun _ _ _ _ _ => by exact pts_one (pt_not (pt_val (pv 3)))) (fun _ _ _ _ _ => by exact pv 2)) pa_nil)) pa_nil))))))), ?_⟩
  obtain ⟨dx, vr, ve, h1, h2, h3⟩ := id hA.at_
  obtain ⟨ra, rbs, erv, hra, hN⟩ := h2.at_
  have MA := hA.mach
  have fA := MA.sq.few
  refine ⟨_, rfl, p, C, dx, _, _, rfl, h1, T.cl, T.nR, rfl, ra, rbs, by rw [erv], .inr (SqT.of hra), _, rfl, p, C, dx, _, _, rfl, h1, T.cl, T.nE, rfl, A.length, ve, eA, by rw [hN.1]; rfl, h3.T, MA.lt, by omega, fun l H1 s1 n1 e1 => ?_⟩
  have h1' := s1 _ _ h1
  refine ⟨_, rfl, p, C, dx, _, _, rfl, h1', T.cl, T.nL, rfl, _, rfl, p, C, dx, _, _, rfl, h1', T.cl, T.nR, rfl, _, rfl, l, _, rfl, SqL.of e1, fun D hD => ?_⟩
  refine lc_it walk_enum (fun i H' => H' D = some (.lst (((List.range i).filter fun j => !decide (j ∈ eA)).map nI)) ∧ Same H1 H') ⟨upd_same, same_new hD _⟩ (fun i H' _ ⟨_, s⟩ => s.seq (SqL.of e1)) ?_ ?_
  · rintro i x H5 H6 hi ⟨u1, s5⟩ ⟨T1, x1, y1, rfl, hT, rfl, e1', e2⟩
    obtain rfl : V.int (i : Nat) = x1 := Option.some.inj e1'
    have hip : i < A.length := by
      unfold flagsOf at hi
      rw [List.length_map, List.length_map, List.length_range] at hi
      exact hi
    have e2' : ((flagsOf A.length eA).map V.bl)[i]? = some y1 := e2
    rw [flag_at hip] at e2'
    obtain rfl := Option.some.inj e2'
    have sT := same_new hT (.tup [V.int (i : Nat), V.bl (decide (i ∈ eA))])
    have s6 := s5.trans sT
    have u1' := sT _ _ u1
    refine ⟨T1, _, rfl, SqT.of upd_same, rfl, _, _, rfl, _, _, rfl, rfl, rfl, _, rfl, ?_⟩
    generalize upd H5 T1 (.tup [V.int (i : Nat), V.bl (decide (i ∈ eA))]) = H6 at u1' s6 ⊢
    refine ⟨_, rfl, ite2 (fun c => ⟨_, rfl, _, u1', ?_, ?_, fun b u e => ?_⟩) (fun c => ⟨?_, s6⟩)⟩
    · rw [List.length_map]
      refine Nat.lt_of_le_of_lt (List.length_filter_le _ _) ?_
      rw [List.length_range, sizeLine_eq]
      omega
    · rw [upd_same, List.range_succ, List.filter_append, List.map_append]
      rw [show ([i].filter fun j => !decide (j ∈ eA)) = [i] by rw [List.filter_cons]; rw [if_pos c]; rfl]
      rfl
    · rw [upd_ne (ne_of_none e hD)]
      exact s6 b u e
    · rw [u1', List.range_succ, List.filter_append]
      rw [show ([i].filter fun j => !decide (j ∈ eA)) = [] by rw [List.filter_cons]; rw [if_neg c]; rfl]
      rw [List.append_nil]
  rintro H5 ⟨u1, s5⟩
  have el : ((flagsOf A.length eA).map V.bl).length = A.length := by
    unfold flagsOf
    rw [List.length_map, List.length_map, List.length_range]
  rw [el] at u1
  refine ⟨D, _, rfl, .inl ⟨SqL.of u1, fun te hte => ?_⟩⟩
  have st := same_new hte (.tup (((List.range A.length).filter fun j => !decide (j ∈ eA)).map nI))
  have s15 := s5.trans st
  have MR : Mach A a.length ((List.range A.length).filter fun j => !decide (j ∈ eA)) := ⟨MA.sq, fun x hx => List.mem_range.mp (List.mem_filter.mp hx).1, List.Pairwise.filter _ List.pairwise_lt_range⟩
  refine fun x px hx hpx hpne => lang_make MR hX.lets hX.asc ((h2.same s1).same s15) ⟨te, rfl, upd_same⟩ hx hpx hpne fun B1 e1 H2 s2 hL K1 K2 => ⟨rfl, ?_⟩
  refine q x B1 e1 H2 ((s1.trans s15).trans s2) ⟨hL, K1⟩ (fun w hw => ?_) (least_le K1 MR.sq K2)
  have z := K2 w hw
  have lt := led_lt MA.sq w 0 hw MA.sq.some
  unfold Wd
  rw [Bool.eq_iff_iff, decide_eq_true_iff, z, List.mem_filter, List.mem_range]
  exact ⟨fun h => h.2, fun h => ⟨lt, h⟩⟩
theorem scAdd : FnScope nAdd ["self", "other"] (defScope sAdd) := ⟨rfl, rfl, rfl, by decide +kernel, rfl, by decide +kernel, by decide +kernel⟩
theorem ok_add {f fC : Addr} {fd fdC : FuncData} (F : Fun K "__add__" "Language.__add__" sAdd f fd) (T : TxtO K mg C CO)
    (GC : FnOk P w K mg base (L2.CX P w) 1 fC fdC ["self", "other"] (spChk C CO)) (bC : L2.Binds K fdC ["self", "other"] []) (mC : Meth K C "_check_letters" fC) :
    FnOk P w K mg base (L2.CX P w) 2 f fd ["self", "other"] (spAdd C CO) := by
  refine F.okX scAdd (fun vs H Q E h => ?_) (fun cdv Ar outer s H vs Q E hr h => ?_)
  · obtain ⟨p, p', a, b, A, B, eA, eB, rfl, _⟩ := h
    rfl
  obtain ⟨p, p', a, b, A, B, eA, eB, rfl, hA, hB, ne, q1⟩ := h
  refine ⟨_, (pss_cons (ps_expr (pe_meth (pv 0) T.cl mC GC hr bC .nil (passes_call (takes_of rfl rfl rfl rfl) (fun _ _ _ _ h => h)) (pa_cons (pv 1) pa_nil))) (pss_cons ps_never (pss_one ps_never))), ?_⟩
  obtain ⟨dx, vr, ve, h1, h2, h3⟩ := id hA.at_
  exact ⟨_, rfl, p, dx, _, rfl, h1, rfl, _, rfl, p, p', a, b, A, B, eA, eB, rfl, hA.at_, hB.at_, fun _ => q1, fun c => absurd c ne⟩
theorem scWit : FnScope ["self", "letters"] ["self", "letters"] (defScope sWit) := ⟨rfl, rfl, rfl, by decide +kernel, rfl, by decide +kernel, by decide +kernel⟩
theorem ok_wit {f fL fI : Addr} {fd fdL fdI : FuncData} (F : Fun K "with_letters" "Language.with_letters" sWit f fd) (T : TxtO K mg C CO) (gL : mg "Language" = some (.ref C))
    (GL : FnOk P w K mg base CX0 2 fL fdL ["thing"] (spLet K letB)) (bL : L2.Binds K fdL ["thing"] []) (kL : PySem.W.keepIn K (.ref fL) = true) (mL : mg "is_letters" = some (.ref fL))
    (M : Mk K C fI) (GI : FnOk P w K mg base CX0 5 fI fdI ["self", "letters", "rows", "ends"] (spLMake C)) (bI : L2.Binds K fdI ["self", "letters", "rows", "ends"] []) :
    FnOk P w K mg base CX0 7 f fd ["self", "letters"] (spWit C) := by
  refine F.ok scWit (fun vs H Q E h => ?_) (fun cdv Ar outer s H vs Q E hr h => ?_)
  · obtain ⟨p, a, b, A, eA, rfl, _⟩ := h
    rfl
  obtain ⟨p, a, b, A, eA, rfl, hA, hX, hab, q⟩ := h
  have hr2 : Room 2 _ := hr.mono (by decide)
  refine ⟨_, (pss_cons (ps_if (PW.pt (pw_or (pt_not (pt_val (pe_call GL hr2 rfl mL kL bL .nil pass0 (pa_cons (pv 1) pa_nil)))) (pw_or1 (pt_cmpR op_ne (pe_callB call_len_str (by rfl) T.len PySem.boot_len (pa_cons (pv 1) pa_nil)) (pe_callB call_len_str (by rfl) T.len PySem.boot_len (pa_cons (pe_fld (pv 0) rfl) pa_nil)) (nomark _))))) (pss_one ps_never) pss_nil)
    (pss_one (ps_ret (pe_make M GI hr (by rfl) gL bI .nil pass0 (pa_cons (pv 1) (pa_cons (pe_fld (pv 0) rfl) (pa_cons (pe_fld (pv 0) rfl) pa_nil))))))), ?_⟩
  obtain ⟨dx, vr, ve, h1, h2, h3⟩ := id hA.at_
  have hlet := hX.lets
  have ha4 : b.length ≤ 4 := by
    have z := hlet
    unfold letB at z
    rw [Bool.and_eq_true, Bool.and_eq_true, decide_eq_true_iff, decide_eq_true_iff] at z
    exact z.1.2
  refine ⟨_, rfl, _, some b, rfl, ⟨rfl, by omega, hX.asc⟩, fun H1 s1 => ⟨_, rfl, ?_⟩⟩
  show if (!letB b) = true then _ else _
  rw [hlet]
  refine if_fl rfl ?_
  refine ⟨_, rfl, _, rfl, Nat.le_trans ha4 (by decide), _, rfl, p, C, dx, _, _, rfl, s1 _ _ h1, T.cl, T.nL, rfl, _, rfl, by rw [← hab]; exact Nat.le_trans ha4 (by decide), rfl, _, rfl, ?_⟩
  refine if_fl (by rw [hab]; simp) ?_
  refine ⟨_, rfl, _, rfl, p, C, dx, _, _, rfl, s1 _ _ h1, T.cl, T.nR, rfl, _, rfl, p, C, dx, _, _, rfl, s1 _ _ h1, T.cl, T.nE, rfl, ?_⟩
  have MR : Mach A b.length eA := by rw [hab]; exact hA.mach
  refine fun x px hx hpx hpne => lang_make MR hX.lets hX.asc (h2.same s1) (h3.same s1) hx hpx hpne fun B1 e1 H2 s2 hL K1 K2 => ⟨rfl, ?_⟩
  refine q x B1 e1 H2 (s1.trans s2) ⟨hL, K1⟩ (fun w hw => ?_) (least_le K1 MR.sq K2)
  have z := K2 w (by rw [hab]; exact hw)
  unfold Wd
  rw [Bool.eq_iff_iff, decide_eq_true_iff, decide_eq_true_iff]
  exact z
end
end Vf

set_option Elab.async false
set_option linter.all false
set_option maxRecDepth 100000
set_option maxHeartbeats 2000000
namespace Vf
open PySem PySem.Spec PyProof.Rows L2 L2.Vx Vs Vm
/-! ### whether what is returned has the parts of its least machine -/
abbrev sIl : Stmt := top 57
abbrev nIl : List Str := ["_law_signs_here", "_law_made", "_law_again", "_law_mine", "_law_due"]
structure TxtIl (K : PySem.W.Frag) (mg : Str → Option Value) (C : Addr) : Prop extends TxtLq K mg C where
  rep : mg "repr" = none
theorem fit_nats {ns : List Nat} {m n : Nat} (h : ∀ x ∈ ns, x < m) (hm : m ≤ 10 ^ 10) (hl : ns.length ≤ n) : Fit (n * 12 + 3) 1 (natsT ns) := by
  refine (fit_tup (b := 10) (e := 0) (ds := ns.map fun n => .int (n : Nat)) fun x hx => ?_).le ?_ (Nat.le_refl _)
  · obtain ⟨y, hy, rfl⟩ := List.mem_map.mp hx
    have := h y hy
    exact fit_int (by omega) (by omega)
  · rw [List.length_map]
    omega
theorem fit_mach {B : List (List Nat)} {k : Nat} {e : List Nat} (M : Mach B k e) (hk : k ≤ 4) (hB : B.length ≤ 40) : Fit 2200 2 (rowsT B) ∧ Fit 2200 2 (natsT e) := by
  have el := nodup_lt _ _ M.nodup M.lt
  constructor
  · refine (fit_tup (b := 4 * 12 + 3) (e := 1) (ds := B.map natsT) fun x hx => ?_).le ?_ (Nat.le_refl _)
    · obtain ⟨r, hr, rfl⟩ := List.mem_map.mp hx
      exact fit_nats (m := 1000) (fun y hy => Nat.lt_of_lt_of_le (M.sq.inn r hr y hy) M.sq.few) (by decide) (by rw [M.sq.wide r hr]; exact hk)
    · rw [List.length_map]
      omega
  · exact (fit_nats (m := 1000) (n := 40) (fun y hy => Nat.lt_of_lt_of_le (M.lt y hy) M.sq.few) (by decide) (by omega)).le (by decide) (by decide)
theorem str_mkS (a : Str) : a = mkS (cp a) := by
  cases a
  rfl
def spIl (C : Addr) : Sp := fun vs H Q _ => ∃ (q : Addr) (a : Str) (A : List (List Nat)) (e : List Nat), vs = [.str a, .ref q] ∧ LG C H q a A e ∧ Abc a ∧ A.length ≤ 40 ∧ ∀ H', Same H H' → Q (.bl true) H'
theorem len_il {C : Addr} : ∀ vs H Q E, spIl C vs H Q E → vs.length = (["_law_signs_here", "_law_made"] : List Str).length := fun vs H Q E ⟨_, _, _, _, e, _⟩ => by rw [e]; rfl
theorem lg_shows {a : Str} {A : List (List Nat)} {e : List Nat} (X : Abc a) (L : Least A a.length e) (h : A.length ≤ 40) : Shows (.list [.str a, rowsT A, natsT e, .int (A.length : Nat)]) := by
  have hk4 : a.length ≤ 4 := by
    have z := X.lets
    unfold letB at z
    rw [Bool.and_eq_true, Bool.and_eq_true, decide_eq_true_iff, decide_eq_true_iff] at z
    exact z.1.2
  obtain ⟨ft1, ft2⟩ := fit_mach (least_mach L) hk4 h
  have cpl : (cp a).length ≤ 4 := by rw [Array.length_toList]; exact hk4
  have fs : Fit 2200 2 (.str a) := by
    rw [str_mkS a]
    exact (fit_str (n := 4) (fun c hc => Nat.lt_trans (X.asc c hc) (by decide)) cpl).le (by decide) (by decide)
  have fi : Fit 2200 2 (.int (A.length : Nat)) := (fit_int (by omega) (by omega)).le (by decide) (by decide)
  exact (fit_lst (b := 2200) (e := 2) (ds := [.str a, rowsT A, natsT e, .int (A.length : Nat)]) fun x hx => by
    simp only [List.mem_cons, List.not_mem_nil, or_false] at hx
    rcases hx with rfl | rfl | rfl | rfl
    · exact fs
    · exact ft1
    · exact ft2
    · exact fi).shows (show 4 * (2200 + 2) + 3 ≤ 1000000 by decide) (by decide)
section
variable {P : Program} {w : World} {K : PySem.W.Frag} {mg : Str → Option Value} {base : Heap} {C : Addr}
theorem scIl : FnScope nIl ["_law_signs_here", "_law_made"] (defScope sIl) := ⟨rfl, rfl, rfl, by decide +kernel, rfl, by decide +kernel, by decide +kernel⟩
theorem ok_il {f fI fL : Addr} {fd fdI fdL : FuncData} (F : Fun K "_law_is_least" "_law_is_least" sIl f fd) (T : TxtIl K mg C)
    (M : Mk K C fI) (GI : FnOk P w K mg base CX0 5 fI fdI ["self", "letters", "rows", "ends"] (spLMake C)) (bI : Binds K fdI ["self", "letters", "rows", "ends"] [])
    (mL : Meth K C "__len__" fL) (GL : FnOk P w K mg base CX0 1 fL fdL ["self"] (spLLen C)) (bL : Binds K fdL ["self"] []) :
    FnG P w K mg base 7 f fd ["_law_signs_here", "_law_made"] (spIl C) := by
  refine FunG F scIl len_il (fun cdv Ar outer s H vs Q E hr hg h => ?_)
  obtain ⟨q, a, A, e, rfl, hL, X, few, k⟩ := h
  have hr2 : Room 2 _ := hr.mono (by decide)
  have hu : (Ar.deeper (envOfC "_law_is_least" (defScope sIl) s.heap.objs.size f cdv)).units + 100 < cLine := by
    have z := hr.un
    omega
  refine ⟨_, (pss_cons (ps_set (i := 2) scIl.nd rfl (Or.inl rfl) (pe_make M GI hr (by rfl) T.gL bI .nil pass0 (pa_cons (pv 0) (pa_cons (pe_fld (pv 1) rfl) (pa_cons (pe_fld (pv 1) rfl) pa_nil)))))
    (pss_cons (ps_par (i := 3) (j := 4) rfl scIl.nd rfl rfl (by decide) rfl rfl (pa_cons (pe_lst (pa_cons (pe_fld (pv 1) rfl) (pa_cons (pe_fld (pv 1) rfl) (pa_cons (pe_fld (pv 1) rfl) (pa_cons (pe_callB (call_lenO mL GL hr2 bL .nil pass0) (by rfl) T.len PySem.boot_len (pa_cons (pv 1) pa_nil)) pa_nil))))) (pa_cons (pe_lst (pa_cons (pv 0) (pa_cons (pe_fld (pv 2) rfl) (pa_cons (pe_fld (pv 2) rfl) (pa_cons (pe_callB (call_lenO mL GL hr2 bL .nil pass0) (by rfl) T.len PySem.boot_len (pa_cons (pv 2) pa_nil)) pa_nil))))) pa_nil)) (by rfl))
    (pss_one (ps_ret (pe_cmpR op_eq (pe_callB (call_rep hg hu (fun _ => True)) (by rfl) T.rep (by decide +kernel) (pa_cons (pv 3) pa_nil)) (pe_callB (call_rep hg hu (fun _ => True)) (by rfl) T.rep (by decide +kernel) (pa_cons (pv 4) pa_nil)) (nomark _)))))), ?_⟩
  obtain ⟨dx, vr, ve, h1, h2, h3⟩ := id hL.at_
  have fw := hL.ok.sq.few
  refine ⟨_, rfl, _, rfl, q, C, dx, _, _, rfl, h1, T.cl, T.nR, rfl, _, rfl, q, C, dx, _, _, rfl, h1, T.cl, T.nE, rfl, fun p px hp hpx hpne => lang_make hL.mach X.lets X.asc h2 h3 hp hpx hpne fun B1 e1 H2 s2 hL2 K1 K2 => ⟨rfl, ?_⟩⟩
  obtain ⟨rfl, rfl⟩ := least_uniq K1 hL.ok K2
  obtain ⟨dy, wr, we, g1, g2, g3⟩ := id hL2
  have hL' := hL.at_.same s2
  have h1' := s2 _ _ h1
  refine ⟨_, rfl, q, C, dx, _, _, rfl, h1', T.cl, T.nL, rfl, _, rfl, q, C, dx, _, _, rfl, h1', T.cl, T.nR, rfl, _, rfl, q, C, dx, _, _, rfl, h1', T.cl, T.nE, rfl, _, rfl, q, dx, _, rfl, h1', ⟨q, a, B1, e1, rfl, hL', ?_⟩⟩
  refine ⟨_, rfl, by omega, by omega, (by show 4 ≤ sizeLine; decide), fun l1 hl1 => ?_⟩
  have s3 := same_new hl1 (.lst [.str a, vr, ve, .int (B1.length : Nat)])
  have el1 : upd H2 l1 (.lst [.str a, vr, ve, .int (B1.length : Nat)]) l1 = some (.lst [.str a, vr, ve, .int (B1.length : Nat)]) := upd_same
  generalize upd H2 l1 (.lst [.str a, vr, ve, .int (B1.length : Nat)]) = H3 at s3 el1 ⊢
  refine ⟨_, rfl, _, rfl, p, C, dy, _, _, rfl, s3 _ _ g1, T.cl, T.nR, rfl, _, rfl, p, C, dy, _, _, rfl, s3 _ _ g1, T.cl, T.nE, rfl, _, rfl, p, dy, _, rfl, s3 _ _ g1, ⟨p, a, B1, e1, rfl, hL2.same s3, ?_⟩⟩
  refine ⟨_, rfl, by omega, by omega, (by show 4 ≤ sizeLine; decide), fun l2 hl2 => ?_⟩
  have s4 := same_new hl2 (.lst [.str a, wr, we, .int (B1.length : Nat)])
  have el2 : upd H3 l2 (.lst [.str a, wr, we, .int (B1.length : Nat)]) l2 = some (.lst [.str a, wr, we, .int (B1.length : Nat)]) := upd_same
  have el1' := s4 _ _ el1
  have s34 := s3.trans s4
  generalize upd H3 l2 (.lst [.str a, wr, we, .int (B1.length : Nat)]) = H4 at el1' el2 s34 ⊢
  have dI : ∀ {Hx : Hp} (n : Nat), Dt Hx (fun _ => True) (.int (n : Nat)) (.int (n : Nat)) := fun n => .flat (show FlatD (.int (n : Nat)) (.int (n : Nat)) from rfl)
  have dS : ∀ {Hx : Hp}, Dt Hx (fun _ => True) (.str a) (.str a) := .flat (show FlatD (.str a) (.str a) from rfl)
  have shw := lg_shows X K1 few
  refine ⟨_, _, rfl, _, rfl, _, _, rfl, .lst el1' trivial (.cons dS (.cons (h2.same (s2.trans s34)).dt (.cons (h3.same (s2.trans s34)).dt (.cons (dI _) .nil)))), shw, _, rfl, _, _, rfl, .lst el2 trivial (.cons dS (.cons (g2.same s34).dt (.cons (g3.same s34).dt (.cons (dI _) .nil)))), shw, rfl, ?_⟩
  rw [decide_eq_true rfl]
  exact k _ (s2.trans s34)
end
end Vf

set_option Elab.async false
set_option linter.all false
set_option maxRecDepth 100000
set_option maxHeartbeats 4000000
namespace Vf
open PySem PySem.Spec PyProof.Rows L2 L2.Vx Vs
open PySem.Froz (sing)
abbrev sSigns : Stmt := top 49
/-! ### the mathematics of joined signs -/
theorem glue_nil : ∀ (l : List Str) (a : Array Nat), (l.foldl (fun acc p => acc ++ (#[] : Array Nat) ++ p.cps) a).toList = a.toList ++ l.flatMap (fun p => p.cps.toList)
  | [], a => by simp
  | p :: r, a => by
    rw [List.foldl_cons, glue_nil r]
    simp
theorem cp_join (ys : List Str) : cp (PySem.Txt.join "" ys) = ys.flatMap cp := by
  show ((ys.drop 1).foldl (fun acc p => acc ++ (#[] : Array Nat) ++ p.cps) (ys.headD Str.empty).cps).toList = _
  rw [glue_nil]
  cases ys with
  | nil => rfl
  | cons y r => simp [cp]
theorem flat_sings : ∀ zs : List Nat, (zs.map sing).flatMap cp = zs
  | [] => rfl
  | z :: r => by
    rw [List.map_cons, List.flatMap_cons, flat_sings r]
    rfl
theorem len_cp (x : Str) : x.length = (cp x).length := by rw [Array.length_toList]; rfl
theorem rising_cons (a b : Nat) (r : List Nat) : rising (a :: b :: r) = (decide (a < b) && rising (b :: r)) := by
  unfold rising
  show (List.range (r.length + 1)).all _ = (_ && (List.range r.length).all _)
  rw [List.range_succ_eq_map, List.all_cons, List.all_map]
  rfl
theorem rising_of : ∀ zs : List Nat, sortedS (zs.map sing) = true → zs.Nodup → rising zs = true
  | [], _, _ => rfl
  | [a], _, _ => rfl
  | a :: b :: r, h, d => by
    have h' : (!ltCps [b] [a] && sortedS ((b :: r).map sing)) = true := h
    obtain ⟨h1, h2⟩ := Bool.and_eq_true_iff.mp h'
    obtain ⟨d1, d2⟩ := List.nodup_cons.mp d
    rw [rising_cons, rising_of (b :: r) h2 d2, Bool.and_true]
    rw [ltCps_eq, lt1] at h1
    simp at h1
    have ne : a ≠ b := fun e => d1 (e ▸ List.mem_cons_self ..)
    exact decide_eq_true (by omega)
/-- texts of one sign each, up to their order -/
theorem sings_perm {ys : List Str} {zs : List Nat} (h : ys.Perm (zs.map sing)) : ∃ us : List Nat, ys = us.map sing ∧ us.Perm zs := by
  have e : ∀ y ∈ ys, sing ((cp y).headD 0) = y := fun y hy => by
    obtain ⟨c, _, rfl⟩ := List.mem_map.mp (h.mem_iff.mp hy)
    rfl
  refine ⟨ys.map fun y => (cp y).headD 0, ?_, ?_⟩
  · rw [List.map_map]
    refine Eq.trans (List.map_id ys).symm (List.map_congr_left fun y hy => ?_)
    exact (e y hy).symm
  · have q := h.map fun y => (cp y).headD 0
    rw [List.map_map] at q
    refine q.trans (List.Perm.of_eq ?_)
    refine Eq.trans (List.map_congr_left fun z _ => ?_) (List.map_id zs)
    rfl
abbrev abc : Str := "abcdefghijklmnopqrstuvwxyz"
theorem abc_az : ∀ c ∈ cp abc, azB c = true := List.all_eq_true.mp (show azs (cp abc) = true by decide +kernel)
theorem abc_nd : (cp abc).Nodup := by decide +kernel
theorem abc_len : (cp abc).length = 26 := by decide +kernel
/-- some of the letters, sorted and joined, are letters -/
theorem join_letters {found left : List Nat} {ys : List Str} (p : (found ++ left).Perm (cp abc)) (h1 : 1 ≤ found.length) (h4 : found.length ≤ 4) (hp : ys.Perm (found.map sing)) (hs : sortedS ys = true) :
    letB (PySem.Txt.join "" ys) = true ∧ (PySem.Txt.join "" ys).length ≤ 4 ∧ ∀ c ∈ cp (PySem.Txt.join "" ys), c < 128 := by
  obtain ⟨us, rfl, pu⟩ := sings_perm hp
  have e : cp (PySem.Txt.join "" (us.map sing)) = us := by rw [cp_join, flat_sings]
  have el : (PySem.Txt.join "" (us.map sing)).length = found.length := by rw [len_cp, e, pu.length_eq]
  have az : ∀ c ∈ us, azB c = true := fun c hc => abc_az c (p.mem_iff.mp (List.mem_append_left _ (pu.mem_iff.mp hc)))
  have nd : us.Nodup := pu.nodup_iff.mpr ((List.nodup_append.mp (p.nodup_iff.mpr abc_nd)).1)
  refine ⟨?_, by rw [el]; exact h4, fun c hc => ?_⟩
  · unfold letB azs
    rw [el, e, rising_of us hs nd, List.all_eq_true.mpr az, decide_eq_true h1, decide_eq_true h4]
    rfl
  · rw [e] at hc
    have z := az c hc
    unfold azB at z
    simp at z
    omega
end Vf

set_option Elab.async false
set_option linter.all false
set_option maxRecDepth 100000
set_option maxHeartbeats 4000000
namespace Vf
open PySem PySem.Spec PyProof.Rows L2 L2.Vx Vs
open PySem.Froz (sing)
def spSigns : Sp := fun vs H Q _ => ∃ (d g : Addr) (m : Nat), vs = [.ref d, .int (m : Nat)] ∧ 0 < m ∧ m ≤ 4 ∧ DeckAt H d g ∧
  ∀ (x : Str) (H' : Hp), letB x = true → x.length ≤ m → (∀ c ∈ cp x, c < 128) → DeckAt H' d g → Keeps d g H H' → Q (.str x) H'
theorem DeckAt.other {H : Hp} {d g p : Addr} (h : DeckAt H d g) (n1 : p ≠ d) (n2 : p ≠ g) (o : HO) : DeckAt (upd H p o) d g := by
  obtain ⟨ns, m, n, h1, h2, h3, h4⟩ := h
  exact ⟨ns, m, n, by rw [upd_ne n1.symm]; exact h1, by rw [upd_ne n2.symm]; exact h2, h3, h4⟩
def Off (d g : Addr) (H : Hp) : Addr → Prop := fun a => (a ≠ d ∧ a ≠ g) ∧ H a = none
theorem Keeps.free {d g t : Addr} {H H' : Hp} (k : Keeps d g H H') (n1 : t ≠ d) (n2 : t ≠ g) (e : H' t = none) : H t = none := by
  cases z : H t with
  | none => rfl
  | some u =>
    have y := k t u n1 n2 z
    rw [e] at y
    exact nomatch y
abbrev sg (c : Nat) : V := V.str (sing c)
theorem erase_sg : ∀ (l : List Nat) (j : Nat), (l.map sg).eraseIdx j = (l.eraseIdx j).map sg
  | [], _ => rfl
  | _ :: _, 0 => rfl
  | c :: r, j + 1 => by rw [List.map_cons, List.eraseIdx_cons_succ, List.eraseIdx_cons_succ, List.map_cons, erase_sg r j]
theorem sum_sing : ∀ us : List Nat, ((us.map sing).map (·.length)).sum = us.length
  | [] => rfl
  | c :: r => by
    rw [List.map_cons, List.map_cons, List.sum_cons, sum_sing r, List.length_cons]
    show 1 + r.length = _
    omega
structure TxtS (mg : Str → Option Value) (fW : Addr) : Prop extends TxtD mg fW where
  range : mg "range" = none
  sorted : mg "sorted" = none
  set : mg "set" = none
section
variable {P : Program} {w : World} {K : PySem.W.Frag} {mg : Str → Option Value} {base : Heap}
theorem scSigns : FnScope ["_law_deck_here", "_law_limit", "_law_left", "_law_found", "_law_k"] ["_law_deck_here", "_law_limit"] (defScope sSigns) := ⟨rfl, rfl, rfl, by decide +kernel, rfl, by decide +kernel, by decide +kernel⟩
theorem ok_signs {f fW : Addr} {fd fdW : FuncData} (F : Fun K "_law_signs" "_law_signs" sSigns f fd)
    (GW : FnOk P w K mg base CX0 1 fW fdW ["_law_deck_here", "_law_below"] spDraw) (bW : Binds K fdW ["_law_deck_here", "_law_below"] []) (kW : PySem.W.keepIn K (.ref fW) = true) (T : TxtS mg fW) :
    FnOk P w K mg base CX0 2 f fd ["_law_deck_here", "_law_limit"] spSigns := by
  refine F.ok scSigns (fun vs H Q E h => ?_) (fun cdv A outer s H vs Q E hr h => ?_)
  · obtain ⟨d, g, m, rfl, _⟩ := h
    rfl
  obtain ⟨d, g, m, rfl, hm0, hm4, hD, q⟩ := h
  refine ⟨_, pss_cons (ps_par (i := 2) (j := 3) rfl scSigns.nd rfl rfl (by decide) rfl rfl (pa_cons (pe_callTy (cr_listText rfl) (by rfl) T.list (by decide +kernel) (pa_cons pe_str pa_nil)) (pa_cons (pe_lst pa_nil) pa_nil)) (by rfl))
    (pss_cons (ps_for PassesOwn.never rfl (pi_range1 rfl T.range (pa_cons (pe_op op_add pe_int (pe_call GW hr rfl T.draw kW bW .nil pass0 (pa_cons (pv 0) (pa_cons (pv 1) pa_nil)))) pa_nil)) (pg_name (i := 4) scSigns.nd rfl (Or.inl rfl))
      (pss_one (ps_expr (pe_bm PySem.F.plainAttrs_list PySem.F.slot_list_append PySem.F.type_list_append mt_append (pv 3) (pa_cons
        (pe_bm PySem.F.plainAttrs_list PySem.F.slot_list_pop PySem.F.type_list_pop mt_popAt (pv 2) (pa_cons (pe_call GW hr rfl T.draw kW bW .nil pass0 (pa_cons (pv 0) (pa_cons (pe_callB call_len_seq (by rfl) T.len PySem.boot_len (pa_cons (pv 2) pa_nil)) pa_nil))) pa_nil)) pa_nil)))))
    (pss_one (ps_ret (pe_join pe_str (pe_callB cr_sortedS (by rfl) T.sorted (by decide +kernel) (pa_cons (pv 3) pa_nil)))))), ?_⟩
  refine ⟨abc, rfl, (by decide +kernel), fun l hl => ⟨Nat.zero_le _, fun t ht => ?_⟩⟩
  have s1 := same_new hl (.lst ((parts abc).map V.str))
  have e1 : upd H l (.lst ((parts abc).map V.str)) l = some (.lst ((cp abc).map sg)) := by rw [upd_same, List.map_map]; rfl
  generalize upd H l (.lst ((parts abc).map V.str)) = H1 at s1 e1 ht ⊢
  have s2 := same_new ht (.lst [])
  have e2 : upd H1 t (.lst []) t = some (.lst []) := upd_same
  have e1' := s2 _ _ e1
  have hlt : l ≠ t := ne_of_none e1 ht
  have hln : l ≠ d ∧ l ≠ g := hD.dn hl
  have htn : t ≠ d ∧ t ≠ g := hD.dn (s1.free ht)
  have htH : H t = none := s1.free ht
  have sm := s1.trans s2
  generalize upd H1 t (.lst []) = H2 at s2 e2 e1' sm ⊢
  clear s1 s2 e1
  have hD2 := hD.same sm
  refine ⟨_, _, rfl, _, rfl, _, rfl, d, g, (m : Nat), rfl, by omega, by omega, hD2, fun r0 H3 hr0 hr4 hD3 k3 => ⟨_, _, rfl, rfl, _, rfl, by omega, by omega, ?_⟩⟩
  refine for_range (lo := 0) (n := (1 + r0).toNat) (fun i σ H' => ∃ (left found : List Nat) (v : Option V), σ = [some (.ref d), some (.int (m : Nat)), some (.ref l), some (.ref t), v] ∧ H' l = some (.lst (left.map sg)) ∧ H' t = some (.lst (found.map sg)) ∧
    (found ++ left).Perm (cp abc) ∧ found.length = i ∧ DeckAt H' d g ∧ Keeps d g H H') ?_ ?_ ?_
  · exact ⟨cp abc, [], none, rfl, k3 _ _ hln.1 hln.2 e1', k3 _ _ htn.1 htn.2 e2, List.Perm.refl _, rfl, hD3, (Keeps.of sm).trans k3⟩
  · rintro i σ H4 hi ⟨left, found, v, rfl, f1, f2, pm, fl, hD4, k4⟩
    have ll : left.length = 26 - i := by
      have z := pm.length_eq
      rw [List.length_append, abc_len, fl] at z
      omega
    have hlm : (left.map sg).length = left.length := List.length_map _
    refine ⟨_, rfl, .inl ⟨rfl, _, SqL.of f2⟩, _, rfl, .inl ⟨rfl, _, SqL.of f1⟩, _, rfl, _, rfl, l, _, rfl, .inl (SqL.of f1), d, g, _, rfl, by rw [hlm]; omega, by rw [hlm]; omega, hD4, fun r H5 hr0' hrb hD5 k5 => ?_⟩
    rw [hlm] at hrb
    have f1' := k5 _ _ hln.1 hln.2 f1
    have f2' := k5 _ _ htn.1 htn.2 f2
    have hrl : r.toNat < left.length := by omega
    have gx : (left.map sg)[r.toNat]? = some (sg left[r.toNat]) := by rw [List.getElem?_map, List.getElem?_eq_getElem hrl]; rfl
    refine ⟨l, _, r, r.toNat, _, rfl, rfl, f1', by omega, by omega, ?_, gx, ?_⟩
    · rw [hlm]
      exact seqIndex_of hr0' hrb
    have f2'' : upd H5 l (.lst ((left.map sg).eraseIdx r.toNat)) t = some (.lst (found.map sg)) := by rw [upd_ne hlt.symm]; exact f2'
    refine ⟨t, _, _, rfl, rfl, f2'', ?_, left.eraseIdx r.toNat, found ++ [left[r.toNat]], _, rfl, ?_, ?_, ?_, ?_, ?_, ?_⟩
    · rw [List.length_map, fl]
      exact Nat.lt_of_lt_of_le (show i < 5 by omega) (by decide)
    · rw [upd_ne hlt, upd_same, erase_sg]
    · rw [upd_same, List.map_append]; rfl
    · rw [List.append_assoc]
      refine (List.Perm.append_left _ ?_).trans pm
      exact erase_perm _ _ _ (List.getElem?_eq_getElem hrl)
    · rw [List.length_append, fl]; rfl
    · exact (hD5.other hln.1 hln.2 _).other htn.1 htn.2 _
    · intro b o n1 n2 e
      rw [upd_ne (ne_of_none e htH), upd_ne (ne_of_none e hl)]
      exact k5 b o n1 n2 (k4 b o n1 n2 e)
  · rintro σ H4 ⟨left, found, v, rfl, f1, f2, pm, fl, hD4, k4⟩
    have f2' : H4 t = some (.lst ((found.map sing).map V.str)) := by rw [f2, List.map_map]; rfl
    refine ⟨⟨_, rfl⟩, _, rfl, t, _, rfl, SqL.of f2', ?_, fun ys p hp hs np => ?_⟩
    · rw [List.length_map, fl]; omega
    have len : (Txt.join "" ys).length ≤ m := by
      obtain ⟨us, e, pu⟩ := sings_perm hp
      have j : Txt.join "" (us.map sing) = Vm.mkS us := Vm.join_signs us
      rw [e, j]
      show us.toArray.size ≤ m
      rw [List.size_toArray, pu.length_eq, fl]
      omega
    have big := join_letters pm (by rw [fl]; omega) (by rw [fl]; omega) hp hs
    refine ⟨_, p, ys, rfl, rfl, .inl (SqL.of upd_same), ?_, q _ _ big.1 len big.2.2 (hD4.same (same_new np _)) (k4.trans (.of (same_new np _)))⟩
    obtain ⟨us, rfl, pu⟩ := sings_perm hp
    rw [sum_sing, List.length_map, pu.length_eq, fl]
    show (1 + r0).toNat + (1 + r0).toNat * 0 ≤ _
    omega
end
end Vf

set_option Elab.async false
set_option linter.all false
set_option maxRecDepth 100000
set_option maxHeartbeats 4000000
namespace Vf
open PySem PySem.Spec PyProof.Rows L2 L2.Vx Vs
/-! ### the law's own run of a machine -/
abbrev sLed : Stmt := top 51
def spLed (K : PySem.W.Frag) : Sp := fun vs H Q _ => ∃ (a x : Str) (v : V) (rows : List (List Nat)) (s : Nat), vs = [.str a, v, .str x, nI s] ∧ RowsAt K H v rows ∧ Square rows (cp a).length ∧ s < rows.length ∧ (∀ c ∈ cp x, c ∈ cp a) ∧ Q (nI (led rows (lets a x) s)) H
section
variable {P : Program} {w : World} {K : PySem.W.Frag} {mg : Str → Option Value} {base : Heap}
theorem scLed : FnScope ["_law_signs_here", "_law_lines", "_law_word", "_law_at", "_law_here", "_law_sign"] ["_law_signs_here", "_law_lines", "_law_word", "_law_at"] (defScope sLed) := ⟨rfl, rfl, rfl, by decide +kernel, rfl, by decide +kernel, by decide +kernel⟩
theorem ok_led {f : Addr} {fd : FuncData} (F : Fun K "_law_led" "_law_led" sLed f fd) : FnOk P w K mg base CX0 1 f fd ["_law_signs_here", "_law_lines", "_law_word", "_law_at"] (spLed K) := by
  refine F.ok scLed (fun vs H Q E h => ?_) (fun cdv A outer s H vs Q E hr h => ?_)
  · obtain ⟨a, x, v, rows, st, rfl, _⟩ := h
    rfl
  obtain ⟨a, x, v, rows, st, rfl, hR, sq, hs, hx, q⟩ := h
  refine ⟨_, pss_cons (ps_set (i := 4) scLed.nd rfl (Or.inl rfl) (pv 3)) (pss_cons (ps_for PassesOwn.never rfl (pi_str (pv 2)) (pg_name (i := 5) scLed.nd rfl (Or.inl rfl))
      (pss_one (ps_set (i := 4) scLed.nd rfl (Or.inl rfl) (pe_ix ix_tup (pe_ix ix_tup (pv 1) (pv 4) (fun _ _ => rfl)) (pe_bm PySem.F.plainAttrs_str PySem.F.slot_str_index PySem.F.type_str_index mt_sindex (pv 0) (pa_cons (pv 5) pa_nil)) (fun _ _ => rfl)))))
    (pss_one (ps_ret (pv 4)))), ?_⟩
  refine ⟨_, rfl, _, rfl, x, rfl, ?_⟩
  refine for_it walk_str (fun i σ H' => H' = H ∧ ∃ v4 : Option V, σ = [some (.str a), some v, some (.str x), some (nI st), some (nI (led rows ((lets a x).take i) st)), v4]) ⟨rfl, none, rfl⟩ (fun _ _ _ _ _ => trivial) ?_ ?_
  · rintro i y σ H1 H2 hi ⟨rfl, v4, rfl⟩ ⟨rfl, c, hc, rfl⟩
    have hc' : (cp x)[i]? = some c := by rw [Array.getElem?_toList]; exact hc
    have hm := hx c (List.mem_of_getElem? hc')
    have hl : (lets a x)[i]? = some ((cp a).idxOf c) := by unfold lets; rw [List.getElem?_map, hc']; rfl
    have hlt := led_lt sq ((lets a x).take i) st (fun b hb => lets_lt hx b (List.mem_of_mem_take hb)) hs
    obtain ⟨va, bs, b, rfl, hva, hb, hrow⟩ := hR.row hlt
    obtain ⟨rest, ho⟩ := sign_index hm
    have hn := next_at (rows := rows) (a := (cp a).idxOf c) hlt fun r hr => by rw [sq.wide r hr]; exact List.idxOf_lt_length_of_mem hm
    refine ⟨_, rfl, _, rfl, va, bs, _, .ref b, rfl, rfl, hva, atI_nat hb, ?_⟩
    refine ⟨_, rfl, rfl, _, rfl, a, ⟨#[c]⟩, (cp a).idxOf c, rest, rfl, rfl, ho, b, _, _, nI (nextOf rows ((cp a).idxOf c) (led rows ((lets a x).take i) st)), rfl, rfl, hrow, atI_nat (by rw [List.getElem?_map, hn]; rfl), rfl, some (.str ⟨#[c]⟩), ?_⟩
    rw [List.take_add_one, hl]
    show _ = [_, _, _, _, some (nI (led rows (_ ++ [_]) st)), _]
    rw [led_snoc]
    rfl
  · rintro σ H1 ⟨rfl, v4, rfl⟩
    have e : (lets a x).take x.cps.size = lets a x := List.take_of_length_le (by unfold lets; rw [List.length_map, Array.length_toList]; exact Nat.le_refl _)
    rw [e]
    exact ⟨_, rfl, q⟩
end
end Vf

set_option Elab.async false
set_option linter.all false
set_option maxRecDepth 100000
set_option maxHeartbeats 4000000
namespace Vf
open PySem PySem.Spec PyProof.Rows L2 L2.Vx Vs
/-! ### the law's own answers -/
abbrev sIsIn : Stmt := top 52
section
variable {P : Program} {w : World} {K : PySem.W.Frag} {mg : Str → Option Value} {base : Heap}
theorem inV_nI (x : Nat) (xs : List Nat) : inV (nI x) (xs.map nI) = decide (x ∈ xs) := by
  unfold inV
  rw [List.any_map, Bool.eq_iff_iff, decide_eq_true_iff, List.any_eq_true]
  constructor
  · rintro ⟨y, hy, e⟩
    have e' : ((y : Int) == (x : Int)) = true := e
    have : y = x := Int.ofNat.inj (eq_of_beq e')
    exact this ▸ hy
  · intro h
    exact ⟨x, h, (beq_self_eq_true (x : Int) : _)⟩
theorem flat_nI (xs : List Nat) : (xs.map nI).all flatV = true := by
  rw [List.all_map]
  exact List.all_eq_true.mpr fun _ _ => rfl
def spIsIn (K : PySem.W.Frag) : Sp := fun vs H Q _ => ∃ (a x : Str) (p : Addr) (v e : V) (rows : List (List Nat)) (ends : List Nat), vs = [.str a, .ref p, .str x] ∧ SqT K H p [v, e] ∧ RowsAt K H v rows ∧ TupN K H e ends ∧ Square rows (cp a).length ∧ 0 < rows.length ∧ (∀ c ∈ cp x, c ∈ cp a) ∧ Q (.bl (decide (led rows (lets a x) 0 ∈ ends))) H
theorem scIsIn : FnScope ["_law_signs_here", "_law_made", "_law_word"] ["_law_signs_here", "_law_made", "_law_word"] (defScope sIsIn) := ⟨rfl, rfl, rfl, by decide +kernel, rfl, by decide +kernel, by decide +kernel⟩
theorem ok_isIn {f fL : Addr} {fd fdL : FuncData} (F : Fun K "_law_is_in" "_law_is_in" sIsIn f fd) (GL : FnOk P w K mg base CX0 1 fL fdL ["_law_signs_here", "_law_lines", "_law_word", "_law_at"] (spLed K)) (bL : Binds K fdL ["_law_signs_here", "_law_lines", "_law_word", "_law_at"] []) (kL : PySem.W.keepIn K (.ref fL) = true) (mL : mg "_law_led" = some (.ref fL)) :
    FnOk P w K mg base CX0 2 f fd ["_law_signs_here", "_law_made", "_law_word"] (spIsIn K) := by
  refine F.ok scIsIn (fun vs H Q E h => ?_) (fun cdv A outer s H vs Q E hr h => ?_)
  · obtain ⟨a, x, p, v, e, rows, ends, rfl, _⟩ := h
    rfl
  obtain ⟨a, x, p, v, e, rows, ends, rfl, hp, hR, hT, sq, h0, hx, q⟩ := h
  obtain ⟨b, rfl, hb⟩ := hT
  refine ⟨_, pss_one (ps_ret (pe_cmpR op_in_seq (pe_call GL hr rfl mL kL bL .nil pass0 (pa_cons (pv 0) (pa_cons (pe_ix ix_tup (pv 1) pe_int (fun _ _ => rfl)) (pa_cons (pv 2) (pa_cons pe_int pa_nil))))) (pe_ix ix_tup (pv 1) pe_int (fun _ _ => rfl)) (by rfl))), ?_⟩
  refine ⟨_, rfl, _, rfl, p, _, _, v, rfl, rfl, hp, rfl, _, rfl, ?_⟩
  refine ⟨a, x, v, rows, 0, rfl, hR, sq, h0, hx, _, rfl, p, _, _, .ref b, rfl, rfl, hp, rfl, b, _, rfl, .inr hb, rfl, flat_nI ends, ?_⟩
  show Q (.bl (inV (nI (led rows (lets a x) 0)) (ends.map nI))) H
  rw [inV_nI]
  exact q
end
end Vf

set_option Elab.async false
set_option linter.all false
set_option maxRecDepth 100000
set_option maxHeartbeats 4000000
namespace Vf
open PySem PySem.Spec PyProof.Rows L2 L2.Vx Vs
/-! ### how far, and all words -/
abbrev sFar : Stmt := top 54
def farN (n : Nat) : Nat := if n = 1 then 12 else if n = 2 then 7 else if n = 3 then 5 else 4
def spFar : Sp := fun vs H Q _ => ∃ a : Str, vs = [.str a] ∧ 1 ≤ a.length ∧ a.length ≤ 4 ∧ ∀ H', Same H H' → Q (nI (farN a.length)) H'
def tabFar : List (Key × V) := [(.inl 1, .int 12), (.inl 2, .int 7), (.inl 3, .int 5), (.inl 4, .int 4)]
theorem tab_far {n : Nat} (h1 : 1 ≤ n) (h4 : n ≤ 4) : valV tabFar (Sum.inl (n : Int)) = some (nI (farN n)) := by
  have : n = 1 ∨ n = 2 ∨ n = 3 ∨ n = 4 := by omega
  rcases this with rfl | rfl | rfl | rfl <;> rfl
structure TxtW (mg : Str → Option Value) : Prop where
  len : mg "len" = none
  range : mg "range" = none
section
variable {P : Program} {w : World} {K : PySem.W.Frag} {mg : Str → Option Value} {base : Heap}
theorem scFar : FnScope ["_law_signs_here"] ["_law_signs_here"] (defScope sFar) := ⟨rfl, rfl, rfl, by decide +kernel, rfl, by decide +kernel, by decide +kernel⟩
theorem ok_far {f : Addr} {fd : FuncData} (F : Fun K "_law_far" "_law_far" sFar f fd) (T : TxtW mg) : FnOk P w K mg base CX0 1 f fd ["_law_signs_here"] spFar := by
  refine F.ok scFar (fun vs H Q E h => ?_) (fun cdv A outer s H vs Q E hr h => ?_)
  · obtain ⟨a, rfl, _⟩ := h
    rfl
  obtain ⟨a, rfl, h1, h4, q⟩ := h
  have hu := hu_of hr
  refine ⟨_, pss_one (ps_ret (pe_dget hu (pe_disp (pps_cons pe_int pe_int (pps_cons pe_int pe_int (pps_cons pe_int pe_int (pps_cons pe_int pe_int pps_nil)))) rfl rfl (by simp) (by decide)) (pe_callB call_len_str (by rfl) T.len PySem.boot_len (pa_cons (pv 0) pa_nil)) (fun _ _ => rfl))), ?_⟩
  intro p hp
  refine ⟨upd_same, tabFar, rfl, by decide, ?_⟩
  have e1 : upd (upd H p (.dK [])) p (.dK (mergeK [] tabFar)) p = some (.dK tabFar) := by rw [upd_same]; rfl
  have sm : Same H (upd (upd H p (.dK [])) p (.dK (mergeK [] tabFar))) := fun b o e => by
    rw [upd_ne (ne_of_none e hp), upd_ne (ne_of_none e hp)]
    exact e
  have g := DGet.k (k := Sum.inl (a.length : Int)) e1
  rw [show valV tabFar (Sum.inl (a.length : Int)) = some (nI (farN a.length)) from tab_far h1 h4] at g
  exact ⟨_, rfl, a, rfl, Nat.le_trans h4 (by decide), p, _, rfl, g, q _ sm⟩
end
end Vf

set_option Elab.async false
set_option linter.all false
set_option maxRecDepth 100000
set_option maxHeartbeats 4000000
namespace Vf
open PySem PySem.Spec PyProof.Rows L2 L2.Vx Vs
/-! ### all words -/
abbrev sEvery : Stmt := top 53
/-- words over letters, of at most so many -/
def Over (a : Str) (k : Nat) (ws : List Str) : Prop := ∀ w ∈ ws, w.length ≤ k ∧ ∀ c ∈ cp w, c ∈ cp a
theorem Over.app {a : Str} {k : Nat} {xs ys : List Str} (h : Over a k xs) (g : Over a k ys) : Over a k (xs ++ ys) := fun w hw => (List.mem_append.mp hw).elim (h w) (g w)
theorem Over.up {a : Str} {k l : Nat} {xs : List Str} (h : Over a k xs) (e : k ≤ l) : Over a l xs := fun w hw => ⟨Nat.le_trans (h w hw).1 e, (h w hw).2⟩
theorem cp_app (u v : Str) : cp (u ++ v) = cp u ++ cp v := Array.toList_append ..
theorem ov0 {a : Str} : Over a 0 [""] := fun w hw => by
  obtain rfl : w = "" := List.mem_singleton.mp hw
  exact ⟨Nat.le_refl _, fun c h => nomatch h⟩
def spEvery : Sp := fun vs H Q _ => ∃ (a : Str) (n : Nat), vs = [.str a, nI n] ∧ 1 ≤ a.length ∧ a.length ≤ 4 ∧ n ≤ 12 ∧ a.length ^ n ≤ 4096 ∧ ∀ (r : Addr) (ws : List Str) H', Same H H' → H' r = some (.lst (ws.map V.str)) → Over a n ws → ws.length ≤ 53248 → Q (.ref r) H'
abbrev nEvery : List Str := ["_law_signs_here", "_law_far_here", "_law_found", "_law_last", "_law_k", "_law_longer", "_law_word", "_law_sign"]
section
variable {P : Program} {w : World} {K : PySem.W.Frag} {mg : Str → Option Value} {base : Heap}
theorem scEvery : FnScope nEvery ["_law_signs_here", "_law_far_here"] (defScope sEvery) := ⟨rfl, rfl, rfl, by decide +kernel, rfl, by decide +kernel, by decide +kernel⟩
theorem ok_every {f : Addr} {fd : FuncData} (F : Fun K "_law_every" "_law_every" sEvery f fd) (T : TxtW mg) : FnOk P w K mg base CX0 1 f fd ["_law_signs_here", "_law_far_here"] spEvery := by
  refine F.ok scEvery (fun vs H Q E h => ?_) (fun cdv A outer s H vs Q E hr h => ?_)
  · obtain ⟨a, n, rfl, _⟩ := h
    rfl
  obtain ⟨a, n, rfl, ha1, ha, hn, hpw, q⟩ := h
  refine ⟨_, pss_cons (ps_par (i := 2) (j := 3) (by rfl) scEvery.nd rfl rfl (by decide) rfl rfl (pa_cons (pe_lst (pa_cons pe_str pa_nil)) (pa_cons (pe_lst (pa_cons pe_str pa_nil)) pa_nil)) (by rfl))
    (pss_cons (ps_for PassesOwn.never rfl (pi_range1 rfl T.range (pa_cons (pv 1) pa_nil)) (pg_name (i := 4) scEvery.nd rfl (Or.inl rfl))
      (pss_cons (ps_set (i := 5) scEvery.nd rfl (Or.inl rfl) (pe_lst pa_nil))
      (pss_cons (ps_for PassesOwn.never rfl (pi_list (pv 3)) (pg_name (i := 6) scEvery.nd rfl (Or.inr rfl))
        (pss_one (ps_expr (pe_bm PySem.F.plainAttrs_list PySem.F.slot_list_extend PySem.F.type_list_extend mt_extend (pv 5) (pa_cons (pe_lc (own := [("_law_sign", 7)]) (g := gName 7) (tt := tYes) rfl scEvery.nd (pi_str (pv 0))
          (blkOk_by (N := nEvery) (sc := defScope sEvery) (by decide +kernel)) (fun _ _ _ _ _ => pg_name (i := 7) scEvery.nd rfl (Or.inl rfl)) (fun _ _ _ _ _ => pts_nil) (fun _ _ _ _ _ => by exact pe_op op_add_str (pv 6) (pv 7))) pa_nil)))))
      (pss_one (ps_par (i := 2) (j := 3) (by rfl) scEvery.nd rfl rfl (by decide) rfl rfl (pa_cons (pe_op op_cat (pv 2) (pv 5)) (pa_cons (pv 5) pa_nil)) (by rfl))))))
    (pss_one (ps_ret (pv 2)))), ?_⟩
  refine ⟨(by show 1 ≤ sizeLine; decide), fun p1 hp1 => ⟨(by show 1 ≤ sizeLine; decide), fun p2 hp2 => ⟨_, _, rfl, _, rfl, (n : Int), rfl, by omega, by omega, ?_⟩⟩⟩
  have s1 := same_new hp1 (.lst [V.str ""])
  have e1 : upd H p1 (.lst [V.str ""]) p1 = some (.lst [V.str ""]) := upd_same
  have s2 := same_new hp2 (.lst [V.str ""])
  refine for_it walk_range (fun i σ H' => ∃ (p q' : Addr) (fs ls : List Str) (v4 v5 v6 : Option V), σ = [some (.str a), some (nI n), some (.ref p), some (.ref q'), v4, v5, v6, none] ∧ H' p = some (.lst (fs.map V.str)) ∧ H' q' = some (.lst (ls.map V.str)) ∧ Over a i fs ∧ Over a i ls ∧ fs.length ≤ (i + 1) * 4096 ∧ ls.length ≤ a.length ^ i ∧ Same H H')
    ⟨p1, p2, [""], [""], none, none, none, rfl, s2 _ _ e1, upd_same, ov0, ov0, by decide, Nat.le_refl _, s1.trans s2⟩ (fun _ _ _ _ _ => trivial) ?_ ?_
  · rintro i v σ H1 H2 hi ⟨p, q', fs, ls, v4, v5, v6, rfl, f1, f2, o1, o2, c1, c2, sm⟩ ⟨rfl, rfl⟩
    have hi' : i < 12 := by omega
    have hls : ls.length ≤ 4096 := Nat.le_trans c2 (Nat.le_trans (Nat.pow_le_pow_right ha1 (by omega)) hpw)
    have hle : a.length ^ (i + 1) ≤ 4096 := Nat.le_trans (Nat.pow_le_pow_right ha1 (by omega)) hpw
    refine ⟨Nat.zero_le _, fun g hg => ?_⟩
    have s3 := same_new hg (.lst [])
    refine ⟨_, rfl, q', rfl, ⟨_, SqL.of (s3 _ _ f2)⟩, ?_⟩
    refine for_it (walk_list (xs := ls.map V.str)) (fun j σ H' => ∃ (ws : List Str) (vk v6 : Option V), σ = [some (.str a), some (nI n), some (.ref p), some (.ref q'), vk, some (.ref g), v6, none] ∧ H' g = some (.lst (ws.map V.str)) ∧ Over a (i + 1) ws ∧ ws.length ≤ a.length * j ∧ Same H2 H')
      ⟨[], _, _, rfl, upd_same, (fun _ h => nomatch h), Nat.zero_le _, s3⟩ (fun _ _ _ _ ⟨_, _, _, _, _, _, _, z⟩ => SqL.of (z _ _ f2)) ?_ ?_
    · rintro j y σ H3 H4 hj ⟨ws, vk, v6', rfl, g1, g2, g3, g4⟩ ⟨rfl, hy⟩
      rw [List.getElem?_map] at hy
      obtain ⟨u, hu', rfl⟩ := Option.map_eq_some_iff.mp hy
      obtain ⟨u1, u2⟩ := o2 u (List.mem_of_getElem? hu')
      refine ⟨_, rfl, .inl ⟨rfl, _, SqL.of g1⟩, _, rfl, a, rfl, fun D hD => ?_⟩
      refine lc_it walk_str (fun k H' => H' D = some (.lst ((((cp a).take k).map fun c => u ++ (⟨#[c]⟩ : Str)).map V.str)) ∧ Same H4 H') ⟨upd_same, same_new hD _⟩ (fun _ _ _ _ => trivial) ?_ ?_
      · rintro k y H5 H6 hk ⟨hv, sm5⟩ ⟨rfl, c, hc, rfl⟩
        have hc' : (cp a)[k]? = some c := by rw [Array.getElem?_toList]; exact hc
        refine ⟨rfl, _, rfl, _, rfl, u, _, rfl, rfl, ?_, _, hv, ?_, ?_, fun b o e => ?_⟩
        · show u.length + 1 ≤ sizeLine
          exact Nat.le_trans (show u.length + 1 ≤ 13 by omega) (by decide)
        · rw [List.length_map, List.length_map]
          exact Nat.lt_of_le_of_lt (List.length_take_le' _ _) (by rw [← len_cp]; exact Nat.lt_of_le_of_lt ha (by decide))
        · rw [upd_same, List.take_add_one, hc', List.map_append, List.map_append]
          rfl
        · rw [upd_ne (ne_of_none e hD)]
          exact sm5 b o e
      · rintro H5 ⟨hv, sm5⟩
        have et : ((cp a).take a.cps.size) = cp a := List.take_of_length_le (by rw [Array.length_toList]; exact Nat.le_refl _)
        rw [et] at hv
        have hgD : H5 g = some (.lst (ws.map V.str)) := sm5 _ _ g1
        have hjl : j < ls.length := by rw [List.length_map] at hj; exact hj
        refine ⟨g, D, _, _, rfl, rfl, hgD, hv, ?_, ws ++ (cp a).map (fun c => u ++ (⟨#[c]⟩ : Str)), _, _, rfl, by rw [upd_same, List.map_append], g2.app fun w hw => ?_, ?_, fun b o e => ?_⟩
        · rw [List.length_map, List.length_map, List.length_map, ← len_cp]
          have e1 : a.length * j + a.length ≤ 4 * 4096 := by
            rw [← Nat.mul_succ]
            exact Nat.mul_le_mul ha (by omega)
          exact Nat.le_trans (show ws.length + a.length ≤ 4 * 4096 by omega) (by decide)
        · obtain ⟨c, hc, rfl⟩ := List.mem_map.mp hw
          refine ⟨?_, fun d hd => ?_⟩
          · rw [len_cp]
            show (cp (u ++ ⟨#[c]⟩)).length ≤ _
            rw [cp_app, List.length_append, ← len_cp]
            exact Nat.succ_le_succ u1
          · rw [cp_app] at hd
            rcases List.mem_append.mp hd with z | z
            · exact u2 d z
            · obtain rfl : d = c := List.mem_singleton.mp z
              exact hc
        · rw [List.length_append, List.length_map, ← len_cp, Nat.mul_succ]
          omega
        · rw [upd_ne (ne_of_none e hg)]
          exact sm5 _ _ (g4 b o e)
    · rintro σ H3 ⟨ws, vk, v6', rfl, g1, g2, g3, g4⟩
      rw [List.length_map] at g3
      have hws : ws.length ≤ a.length ^ (i + 1) := by
        rw [Nat.pow_succ, Nat.mul_comm]
        exact Nat.le_trans g3 (Nat.mul_le_mul_left _ c2)
      have f1' := g4 _ _ f1
      refine ⟨_, rfl, _, rfl, p, g, _, _, rfl, rfl, f1', g1, ?_, fun r hr' => ⟨_, rfl, _, _, rfl, r, g, fs ++ ws, ws, _, _, _, rfl, by rw [upd_same, List.map_append], same_new hr' _ _ _ g1, (o1.up (Nat.le_succ i)).app g2, g2, ?_, ?_, ?_⟩⟩
      · rw [List.length_map, List.length_map]
        have : sizeLine = 16777216 := by decide
        have : (i + 1) * 4096 ≤ 13 * 4096 := Nat.mul_le_mul_right _ (by omega)
        omega
      · rw [List.length_append]
        omega
      · omega
      · exact (sm.trans g4).trans (same_new hr' _)
  · rintro σ H1 ⟨p, q', fs, ls, v4, v5, v6, rfl, f1, f2, o1, o2, c1, c2, sm⟩
    exact ⟨_, rfl, q p fs _ sm f1 o1 (Nat.le_trans c1 (by omega))⟩
end
end Vf

set_option Elab.async false
set_option linter.all false
set_option maxRecDepth 100000
set_option maxHeartbeats 4000000
namespace L2
open PySem PySem.Spec PyProof.Rows
/-! ### x in an object with an own __contains__ -/
section
variable {X : Cx} {CX : CXT} {k : Nat} {f C : Addr} {fd : FuncData} {ps : List Str} {sp : Sp} {E : XK} {dvs : List V} {ds : List Value}
def rInO (C : Addr) (sp : Sp) (dvs : List V) (E : XK) : R2 := fun x y H Q => ∃ a dx fs, y = .ref a ∧ H a = some (.ins C dx fs) ∧ sp ([y, x] ++ dvs) H (fun v H' => ∃ b, v = .bl b ∧ Q (.bl b) H') E
theorem op_inO (hm : Meth X.K C "__contains__" f) (F : FnOk X.prog X.w X.K X.mg X.base CX k f fd ps sp) (hr : Room k X.A) (hb : Binds X.K fd ps ds) (hd : Vals dvs ds) (hx : Passes CX X E) :
    OpR X (compareOp .In) (rInO C sp dvs E) := by
  intro pins s σ H x y v u Q I rx ry h
  obtain ⟨a, dx, fs, rfl, ea, q⟩ := h
  obtain rfl : u = Value.ref a := ry
  obtain ⟨mA, O, _, _, _, _⟩ := ins_get I.hok ea
  obtain ⟨od, J, _⟩ := O.look
  have go := run_fn (us := [.ref a, v]) (vs := [.ref a, x]) F hr hb hd hx I (.cons rfl (.cons rx .nil)) q
  refine wpAny_bind ?_
  unfold contains
  refine wpAny_holding (wpAny_bind (wpAny_bind (J.type.here ((PySem.W.looks_findIn I.kIn hm.at_).here ?_))))
  rw [if_neg (by simp)]
  refine wpAny_bind (PySem.W.unlessNone_K I.kIn J hm.at_ hm.fn (wpAny_mono go (fun r s' z => ?_) fun _ _ z => z))
  obtain ⟨v1, H1, I1, r1, b, rfl, q1⟩ := z
  obtain rfl : r = Value.bool b := r1
  exact wpAny_truthy_bool (wpAny_pure ⟨.bl b, H1, I1, rfl, q1⟩)
end
end L2

set_option Elab.async false
set_option linter.all false
set_option maxRecDepth 100000
set_option maxHeartbeats 1000000
namespace L2
open PySem PySem.Spec PyProof.Rows
/-! ### a | b, a <= b, ~a by own methods -/
section
variable {X : Cx} {CX : CXT} {k : Nat} {f C : Addr} {fd : FuncData} {ps : List Str} {sp : Sp} {E : XK} {Es : St → XK} {a b : Expr} {ta tb : TE} {pos : Pos}
def rBinO (C : Addr) (sp : Sp) (E : XK) : R2 := fun x y H Q => ∃ a dx fs b dy gs, x = .ref a ∧ y = .ref b ∧ H a = some (.ins C dx fs) ∧ H b = some (.ins C dy gs) ∧ sp [x, y] H (fun v H' => (∃ r, v = .ref r) ∧ Q v H') E
theorem binO_run {op : Operator} {pins : List (Addr × Obj)} {s : Shared} {σ : St} {H : Hp} {x y : V} {v u : Value} {Q : VK} (hc : PySem.W.selfFirst X.K C = true) (hs : PySem.W.findIn X.K (.ref C) (PySem.dunder op.info.2) = some (some (.ref f))) (hf : PySem.W.isFn X.K (.ref f) = true)
    (F : FnOk X.prog X.w X.K X.mg X.base CX k f fd ps sp) (hr : Room k X.A) (hb : Binds X.K fd ps []) (hx : PassesAt CX X σ E) (I : Inv X pins σ H s) (rx : RelV x v) (ry : RelV y u) (h : rBinO C sp E x y H Q) :
    wpAny (model X.prog X.w) X.A (binaryOp op v u) (EP X pins σ Q) X.xe s := by
  obtain ⟨a, dx, fs, b, dy, gs, rfl, rfl, ea, eb, q⟩ := h
  obtain rfl : v = Value.ref a := rx
  obtain rfl : u = Value.ref b := ry
  obtain ⟨mA, O, _, _, _, _⟩ := ins_get I.hok ea
  obtain ⟨od, J, _⟩ := O.look
  obtain ⟨mB, O', _, _, _, _⟩ := ins_get I.hok eb
  obtain ⟨od', J', _⟩ := O'.look
  obtain ⟨m, hF⟩ := I.fr
  refine PySem.W.binop_K hF I.ok.mod.kin J J'.type hc hs hf ?_
  have go := run_fnS (us := [.ref a, .ref b]) (vs := [.ref a, .ref b]) (E := fun _ => E) F hr hb hx I (.cons rfl (.cons rfl .nil)) q
  refine wpAny_mono go (fun r s' z => ?_) fun _ _ z => z
  obtain ⟨v1, H1, I1, r1, ⟨p, rfl⟩, q1⟩ := z
  obtain rfl : r = Value.ref p := r1
  exact cmpBack_of (by intro z; cases z) ⟨.ref p, H1, I1, rfl, q1⟩
theorem op_binO {op : Operator} (hc : PySem.W.selfFirst X.K C = true) (hs : PySem.W.findIn X.K (.ref C) (PySem.dunder op.info.2) = some (some (.ref f))) (hf : PySem.W.isFn X.K (.ref f) = true)
    (F : FnOk X.prog X.w X.K X.mg X.base CX k f fd ps sp) (hr : Room k X.A) (hb : Binds X.K fd ps []) (hx : Passes CX X E) : OpR X (binaryOp op) (rBinO C sp E) :=
  fun _ _ _ _ _ _ _ _ _ I rx ry h => binO_run hc hs hf F hr hb (fun pins H s e s' I c => hx pins _ H s e s' I c) I rx ry h
def tBinAt (C : Addr) (sp : Sp) (E : St → XK) (ta tb : TE) : TE := fun σ H Q => ta σ H fun x H1 => tb σ H1 fun y H2 => rBinO C sp (E σ) x y H2 Q
theorem pe_binAt {op : Operator} (hc : PySem.W.selfFirst X.K C = true) (hs : PySem.W.findIn X.K (.ref C) (PySem.dunder op.info.2) = some (some (.ref f))) (hf : PySem.W.isFn X.K (.ref f) = true)
    (F : FnOk X.prog X.w X.K X.mg X.base CX k f fd ps sp) (hr : Room k X.A) (hb : Binds X.K fd ps []) (hx : ∀ σ, PassesAt CX X σ (Es σ)) (ha : PE X a ta) (hi : PE X b tb) : PE X (.BinOp a op b pos) (tBinAt C sp Es ta tb) := by
  refine ⟨fun pins s σ H Q I h => ?_⟩
  exact wpAny_BinOp (binT ha hi I h fun v u s2 x y H2 I2 rx ry q => binO_run hc hs hf F hr hb (hx σ) I2 rx ry q)
def rLeO (C : Addr) (sp : Sp) (E : XK) : R2 := fun x y H Q => ∃ a dx fs b dy gs, x = .ref a ∧ y = .ref b ∧ H a = some (.ins C dx fs) ∧ H b = some (.ins C dy gs) ∧ sp [x, y] H (fun v H' => ∃ b, v = .bl b ∧ Q (.bl b) H') E
theorem leO_run {pins : List (Addr × Obj)} {s : Shared} {σ : St} {H : Hp} {x y : V} {v u : Value} {Q : VK} (hs : PySem.W.findIn X.K (.ref C) "__le__" = some (some (.ref f))) (hf : PySem.W.isFn X.K (.ref f) = true)
    (F : FnOk X.prog X.w X.K X.mg X.base CX k f fd ps sp) (hr : Room k X.A) (hb : Binds X.K fd ps []) (hx : PassesAt CX X σ E) (hu : X.A.units < cLine) (I : Inv X pins σ H s) (rx : RelV x v) (ry : RelV y u) (h : rLeO C sp E x y H Q) :
    wpAny (model X.prog X.w) X.A (compareOp .LtE v u) (EP X pins σ Q) X.xe s := by
  obtain ⟨a, dx, fs, b, dy, gs, rfl, rfl, ea, eb, q⟩ := h
  obtain rfl : v = Value.ref a := rx
  obtain rfl : u = Value.ref b := ry
  obtain ⟨mA, O, _, _, _, _⟩ := ins_get I.hok ea
  obtain ⟨od, J, _⟩ := O.look
  obtain ⟨mB, O', _, _, _, _⟩ := ins_get I.hok eb
  obtain ⟨od', J', _⟩ := O'.look
  obtain ⟨m, hF⟩ := I.fr
  show wpAny (model X.prog X.w) X.A (richCompare .LtE (.ref a) (.ref b)) (EP X pins σ Q) X.xe s
  refine PySem.W.cmp_K (op := .LtE) (tb := .ref C) hu hF I.ok.mod.kin J J'.type (by simp [PySem.W.notFirst]) hs hf ?_
  have go := run_fnS (us := [.ref a, .ref b]) (vs := [.ref a, .ref b]) (E := fun _ => E) F hr hb hx I (.cons rfl (.cons rfl .nil)) q
  refine wpAny_mono go (fun r s' z => ?_) fun _ _ z => z
  obtain ⟨v1, H1, I1, r1, b1, rfl, q1⟩ := z
  obtain rfl : r = Value.bool b1 := r1
  exact cmpBack_of (by intro z; cases z) ⟨.bl b1, H1, I1, rfl, q1⟩
theorem op_leO (hs : PySem.W.findIn X.K (.ref C) "__le__" = some (some (.ref f))) (hf : PySem.W.isFn X.K (.ref f) = true)
    (F : FnOk X.prog X.w X.K X.mg X.base CX k f fd ps sp) (hr : Room k X.A) (hb : Binds X.K fd ps []) (hx : Passes CX X E) (hu : X.A.units < cLine) : OpR X (compareOp .LtE) (rLeO C sp E) :=
  fun _ _ _ _ _ _ _ _ _ I rx ry h => leO_run hs hf F hr hb (fun pins H s e s' I c => hx pins _ H s e s' I c) hu I rx ry h
def tLeAt (C : Addr) (sp : Sp) (E : St → XK) (ta tb : TE) : TE := fun σ H Q => ta σ H fun x H1 => tb σ H1 fun y H2 => rLeO C sp (E σ) x y H2 Q
theorem pe_leAt (hs : PySem.W.findIn X.K (.ref C) "__le__" = some (some (.ref f))) (hf : PySem.W.isFn X.K (.ref f) = true)
    (F : FnOk X.prog X.w X.K X.mg X.base CX k f fd ps sp) (hr : Room k X.A) (hb : Binds X.K fd ps []) (hx : ∀ σ, PassesAt CX X σ (Es σ)) (hu : X.A.units < cLine) (ha : PE X a ta) (hi : PE X b tb) (hm : behindInMarks .LtE b = false) : PE X (.Compare a [.LtE] [b] pos) (tLeAt C sp Es ta tb) := by
  refine ⟨fun pins s σ H Q I h => ?_⟩
  exact wpAny_Compare1 (binT ha hi I h fun v u s2 x y H2 I2 rx ry q => leO_run hs hf F hr hb (hx σ) hu I2 rx ry q) hm
def rInvO (C : Addr) (sp : Sp) (E : XK) : V → Hp → VK → Prop := fun x H Q => ∃ a dx fs, x = .ref a ∧ H a = some (.ins C dx fs) ∧ sp [x] H Q E
theorem un_invO (hs : PySem.W.findIn X.K (.ref C) "__invert__" = some (some (.ref f))) (hf : PySem.W.isFn X.K (.ref f) = true)
    (F : FnOk X.prog X.w X.K X.mg X.base CX k f fd ps sp) (hr : Room k X.A) (hb : Binds X.K fd ps []) (hx : Passes CX X E) : UnR X (unaryOp .Invert) (rInvO C sp E) := by
  intro pins s σ H x v Q I rx h
  obtain ⟨a, dx, fs, rfl, ea, q⟩ := h
  obtain rfl : v = Value.ref a := rx
  obtain ⟨mA, O, _, _, _, _⟩ := ins_get I.hok ea
  obtain ⟨od, J, _⟩ := O.look
  obtain ⟨m, hF⟩ := I.fr
  refine PySem.W.ksp_inv hF I.ok.mod.kin J hs hf ?_
  exact run_fnS (us := [.ref a]) (vs := [.ref a]) (E := fun _ => E) F hr hb (fun pins H s e s' I c => hx pins _ H s e s' I c) I (.cons rfl .nil) q
end
/-! ### x in ys, x and the items data -/
end L2

set_option Elab.async false
set_option linter.all false
set_option maxRecDepth 100000
set_option maxHeartbeats 4000000
namespace Vd
open PySem PySem.Spec PyProof.Rows L2 L2.Vx Vm
/-! ### x < y of values that are alike -/
def rLtDat (K : PySem.W.Frag) : R2 := fun x y H Q => ∃ d e, Dp K H x d ∧ Dp K H y e ∧ W.alike d e = true ∧ d ≠ .none ∧ d.depth ≤ 60 ∧ Q (.bl (W.dataLt d e)) H
section
variable {X : Cx}
theorem op_ltDat (hu : X.A.units + 64 < cLine) : OpR X (compareOp .Lt) (rLtDat X.K) := by
  intro pins s σ H x y v u Q I rx ry h
  obtain ⟨d, e, hd, he, ha, hn, hdp, q⟩ := h
  obtain ⟨as, r1⟩ := Dp.reads I d x v hd rx
  obtain ⟨bs, r2⟩ := Dp.reads I e y u he ry
  have hk : X.A.units + min d.depth e.depth < cLine := by
    have := Nat.min_le_left d.depth e.depth
    omega
  show wpAny (model X.prog X.w) X.A (richCompare .Lt v u) (EP X pins σ Q) X.xe s
  exact W.rcLt_alike d e X.A s v u as bs r1 r2 ha hn hk X.prog X.w _ _ ⟨.bl _, H, I, rfl, q⟩
theorem ltDat_at {K : PySem.W.Frag} (e : X.K = K) (hu : X.A.units + 64 < cLine) : OpR X (compareOp .Lt) (rLtDat K) := e ▸ op_ltDat hu
end
def pairP (z : Wd) : PyData := .tuple [.int (z.length : Nat), .str (mkS z)]
theorem alike_pair (x y : Wd) : W.alike (pairP x) (pairP y) = true := by
  unfold pairP
  simp [W.alike, W.alikeAll]
theorem lt_pair (x y : Wd) : W.dataLt (pairP x) (pairP y) = ltP x y := by
  unfold pairP ltP
  rw [W.dataLt_tuple]
  have a1 : W.alike (.int (x.length : Nat)) (.int (y.length : Nat)) = true := by simp [W.alike]
  have a2 : W.alike (.str (mkS x)) (.str (mkS y)) = true := by simp [W.alike]
  by_cases c : x.length = y.length
  · rw [W.dataLt_all_yes a1 (by rw [c]; simp [PyData.eqv])]
    rw [decide_eq_true c, Bool.true_and, decide_eq_false (by omega : ¬ x.length < y.length), Bool.false_or]
    by_cases e : x = y
    · subst e
      rw [W.dataLt_all_yes a2 (by simp [PyData.eqv]), decide_eq_false (lt_irr x)]
      rfl
    · rw [W.dataLt_all_no a2 (by
        simp only [PyData.eqv]
        exact beq_eq_false_iff_ne.mpr fun z => e (mkS_inj z)), W.dataLt_str, mkS_cps, mkS_cps]
  · rw [W.dataLt_all_no a1 (by
      simp only [PyData.eqv]
      exact beq_eq_false_iff_ne.mpr fun z => c (Int.ofNat.inj z)), W.dataLt_int, decide_eq_false c, Bool.false_and, Bool.or_false]
    rw [Bool.eq_iff_iff, decide_eq_true_iff, decide_eq_true_iff]
    exact Int.ofNat_lt
end Vd

set_option Elab.async false
set_option linter.all false
set_option maxRecDepth 100000
set_option maxHeartbeats 4000000
namespace Vd
open PySem PySem.Spec PyProof.Rows L2 L2.Vx Vm
/-! ### xs == [], whatever the items -/
section
variable {X : Cx}
theorem op_eqNil (hu : X.A.units + 64 < cLine) : OpR X (compareOp .Eq) (fun x y H Q => ∃ a b xs, x = .ref a ∧ y = .ref b ∧ SqL X.K H a xs ∧ SqL X.K H b [] ∧ Q (.bl xs.isEmpty) H) := by
  intro pins s σ H x y v u Q I rx ry h
  obtain ⟨a, b, xs, rfl, rfl, ha, hb, q⟩ := h
  cases rx
  cases ry
  obtain ⟨is1, r1, p1, _⟩ := I.list ha
  obtain ⟨is2, r2, p2, _⟩ := I.list hb
  cases r2
  have hu' : X.A.units < cLine := by omega
  cases xs with
  | nil =>
    cases r1
    exact SeqAt.eq_listAt (e := fun _ => true) p1.isList p2.isList rfl hu' (fun j h1 _ => absurd h1 (by simp)) ⟨.bl true, H, I, rfl, q⟩
  | cons z zs =>
    cases r1 with
    | cons w ws =>
      exact SeqAt.eq_list_lengthsAt p1.isList p2.isList (by simp) hu' ⟨.bl false, H, I, rfl, q⟩
theorem op_neNil (hu : X.A.units + 64 < cLine) : OpR X (compareOp .NotEq) (fun x y H Q => ∃ a b xs, x = .ref a ∧ y = .ref b ∧ SqL X.K H a xs ∧ SqL X.K H b [] ∧ Q (.bl (!xs.isEmpty)) H) := by
  intro pins s σ H x y v u Q I rx ry h
  obtain ⟨a, b, xs, rfl, rfl, ha, hb, q⟩ := h
  cases rx
  cases ry
  obtain ⟨is1, r1, p1, _⟩ := I.list ha
  obtain ⟨is2, r2, p2, _⟩ := I.list hb
  cases r2
  have hu' : X.A.units < cLine := by omega
  cases xs with
  | nil =>
    cases r1
    exact SeqAt.RcNeAt.lists (e := fun _ => true) p1.isList p2.isList rfl hu' (fun j h1 _ => absurd h1 (by simp)) X.prog X.w _ _ ⟨.bl false, H, I, rfl, q⟩
  | cons z zs =>
    cases r1 with
    | cons w ws =>
      exact SeqAt.RcNeAt.lists_lengths p1.isList p2.isList (by simp) hu' X.prog X.w _ _ ⟨.bl true, H, I, rfl, q⟩
end
end Vd

set_option Elab.async false
set_option linter.all false
set_option maxRecDepth 100000
set_option maxHeartbeats 2000000
namespace Vf
open PySem PySem.Spec PyProof.Rows L2 L2.Vx Vs Vm Vd
/-! ### texts in languages; lists of bools, compared -/
abbrev sLIn : Stmt := inClass clsL 3
def spLIn (K : PySem.W.Frag) (C : Addr) : Sp := fun vs H Q _ => ∃ (p : Addr) (x : Str) (a : Str) (A : List (List Nat)) (e : List Nat), vs = [.ref p, .str x] ∧ LG C H p a A e ∧ Abc a ∧ (∀ c ∈ cp x, c ∈ cp a) ∧ x.length ≤ 100000 ∧ ∀ H', Same H H' → Q (.bl (Wd A e (lets a x))) H'
theorem Abc.four {a : Str} (X : Abc a) : 1 ≤ a.length ∧ a.length ≤ 4 := by
  have z := X.lets
  unfold letB at z
  rw [Bool.and_eq_true, Bool.and_eq_true, decide_eq_true_iff, decide_eq_true_iff] at z
  exact z.1
theorem eqv_bls : ∀ xs ys : List Bool, PyData.eqvAll (xs.map PyData.bool) (ys.map PyData.bool) = decide (xs = ys)
  | [], [] => by simp [PyData.eqvAll]
  | [], _ :: _ => by simp [PyData.eqvAll]
  | _ :: _, [] => by simp [PyData.eqvAll]
  | x :: r, y :: t => by
    have e : PyData.eqv (.bool x) (.bool y) = decide (x = y) := by cases x <;> cases y <;> decide
    simp only [List.map_cons, PyData.eqvAll, e, eqv_bls r t]
    by_cases h : x = y
    · subst h
      simp
    · simp [h]
theorem dpAll_bls {K : PySem.W.Frag} {H : Hp} : ∀ xs : List Bool, DpAll K H (xs.map V.bl) (xs.map PyData.bool)
  | [] => .nil
  | x :: r => .cons (.bl x) (dpAll_bls r)
theorem dp_bls {K : PySem.W.Frag} {H : Hp} {a : Addr} {xs : List Bool} (h : SqL K H a (xs.map V.bl)) : Dp K H (.ref a) (.list (xs.map .bool)) := .lst h (dpAll_bls xs)
theorem bls_shaped (xs : List Bool) : SeqAt.shaped (.list (xs.map .bool)) = true := by
  have h1 : ∀ l : List Bool, PyData.canLayAll0 (l.map .bool) = true := fun l => by
    induction l with
    | nil => rfl
    | cons p r ih =>
      rw [List.map_cons]
      show (PyData.canLay0 (.bool p) && PyData.canLayAll0 (r.map .bool)) = true
      rw [ih]
      rfl
  have h2 : ∀ l : List Bool, PyData.depthAll (l.map .bool) = 0 := fun l => by
    induction l with
    | nil => rfl
    | cons p r ih => simp only [List.map, PyData.depthAll, PyData.depth, ih, Nat.max_self]
  show (PyData.canLay0 _ && decide (_ ≤ 64)) = true
  rw [show (PyData.list (xs.map .bool)).canLay0 = true from h1 xs, Bool.true_and]
  exact decide_eq_true (by simp only [PyData.depth, h2]; omega)
theorem bls_eqv (xs ys : List Bool) : PyData.eqv (.list (xs.map .bool)) (.list (ys.map .bool)) = decide (xs = ys) := by
  show PyData.eqvAll _ _ = _
  exact eqv_bls xs ys
section
variable {P : Program} {w : World} {K : PySem.W.Frag} {mg : Str → Option Value} {base : Heap} {C : Addr}
theorem scLIn : FnScope ["self", "text"] ["self", "text"] (defScope sLIn) := ⟨rfl, rfl, rfl, by decide +kernel, rfl, by decide +kernel, by decide +kernel⟩
theorem ok_lin {f fT fB : Addr} {fd fdT fdB : FuncData} (F : Fun K "__contains__" "Language.__contains__" sLIn f fd) (T : TxtLg K mg C)
    (GT : FnOk P w K mg base CX0 1 fT fdT ["letters", "thing"] (spText K wordB)) (bT : Binds K fdT ["letters", "thing"] []) (kT : PySem.W.keepIn K (.ref fT) = true) (mT : mg "is_text" = some (.ref fT))
    (GB : FnOk P w K mg base CX0 1 fB fdB ["letters", "rows", "state", "text"] (spBehind K)) (bB : Binds K fdB ["letters", "rows", "state", "text"] []) (kB : PySem.W.keepIn K (.ref fB) = true) (mB : mg "state_behind" = some (.ref fB)) :
    FnOk P w K mg base CX0 2 f fd ["self", "text"] (spLIn K C) := by
  refine F.ok scLIn (fun vs H Q E h => ?_) (fun cdv Ar outer s H vs Q E hr h => ?_)
  · obtain ⟨p, x, a, A, e, rfl, _⟩ := h
    rfl
  obtain ⟨p, x, a, A, e, rfl, hL, X, hin, hx, q⟩ := h
  have hr1 : Room 1 _ := hr.mono (by decide)
  refine ⟨_, (pss_one (ps_ret (pe_and (pe_call GT hr1 rfl mT kT bT .nil pass0 (pa_cons (pe_fld (pv 0) rfl) (pa_cons (pv 1) pa_nil))) (pe_one (pe_cmpR op_in_seq (pe_call GB hr1 rfl mB kB bB .nil pass0 (pa_cons (pe_fld (pv 0) rfl) (pa_cons (pe_fld (pv 0) rfl) (pa_cons pe_int (pa_cons (pv 1) pa_nil))))) (pe_fld (pv 0) rfl) (by rfl)))))), ?_⟩
  obtain ⟨dx, vr, ve, h1, h2, h3⟩ := id hL.at_
  have hal : (cp a).length = a.length := by rw [Array.length_toList]; rfl
  have ok : wordB a x = true := List.all_eq_true.mpr fun c hc => decide_eq_true (hin c hc)
  have sq : Square A (cp a).length := by rw [hal]; exact hL.ok.sq
  refine ⟨_, rfl, p, C, dx, _, _, rfl, h1, T.cl, T.nL, rfl, _, rfl, a, .str x, some x, rfl, ⟨rfl, hx, fun c hc => X.asc c (hin c hc)⟩, X.four.2, fun H1 s1 => ⟨_, rfl, ?_⟩⟩
  refine if_tr ok ?_
  have h1' := s1 _ _ h1
  refine ⟨_, rfl, p, C, dx, _, _, rfl, h1', T.cl, T.nL, rfl, _, rfl, p, C, dx, _, _, rfl, h1', T.cl, T.nR, rfl, _, rfl, a, x, vr, A, 0, rfl, (h2.same s1).R, sq, sq.some, hin, ?_⟩
  obtain ⟨ea, rfl, hse⟩ := h3.same s1
  refine ⟨_, rfl, p, C, dx, _, _, rfl, h1', T.cl, T.nE, rfl, ea, _, rfl, .inr (SqT.of hse), rfl, flat_nI _, ?_⟩
  rw [if_neg (by decide), inV_nI]
  exact q H1 s1
end
end Vf

set_option Elab.async false
set_option linter.all false
set_option maxRecDepth 100000
set_option maxHeartbeats 4000000
namespace Vf
open PySem PySem.Spec PyProof.Rows L2 L2.Vx Vs Vm Vd
/-! ### whether what is put together has the texts that are due -/
abbrev sTr : Stmt := top 56
abbrev nTr : List Str := ["_law_signs_here", "_law_parts", "_law_codes", "_law_one", "_law_two", "_law_some", "_law_word", "_law_x", "_law_y", "_law_due", "_law_made"]
structure TxtTr (mg : Str → Option Value) (fE fF fI2 fIl : Addr) : Prop where
  every : mg "_law_every" = some (.ref fE)
  far : mg "_law_far" = some (.ref fF)
  isin : mg "_law_is_in" = some (.ref fI2)
  least : mg "_law_is_least" = some (.ref fIl)
/-- what six languages put together are -/
def gs6 : List (Bool → Bool → Bool) := [fun x y => x || y, fun x y => x && y, fun x y => x && !y, fun x y => y && !x, fun x _ => !x, fun _ y => !y]
def SomeAt (C : Addr) (H : Hp) (a : Str) (A B : List (List Nat)) (eA eB : List Nat) (vs : List V) (gs : List (Bool → Bool → Bool)) : Prop := vs.length = gs.length ∧ ∀ (i : Nat) (v : V) (g : Bool → Bool → Bool), vs[i]? = some v → gs[i]? = some g →
  ∃ (q : Addr) (R : List (List Nat)) (eR : List Nat), v = .ref q ∧ LG C H q a R eR ∧ R.length ≤ 40 ∧ ∀ w : List Nat, (∀ j ∈ w, j < a.length) → Wd R eR w = g (Wd A eA w) (Wd B eB w)
theorem SomeAt.same {C : Addr} {H H' : Hp} {a : Str} {A B : List (List Nat)} {eA eB : List Nat} {vs : List V} {gs : List (Bool → Bool → Bool)} (h : SomeAt C H a A B eA eB vs gs) (s : Same H H') : SomeAt C H' a A B eA eB vs gs :=
  ⟨h.1, fun i v g e1 e2 => by
    obtain ⟨q, R, eR, h1, h2, h3⟩ := h.2 i v g e1 e2
    exact ⟨q, R, eR, h1, h2.same s, h3⟩⟩
theorem SomeAt.nil {C : Addr} {H : Hp} {a : Str} {A B : List (List Nat)} {eA eB : List Nat} : SomeAt C H a A B eA eB [] [] := ⟨rfl, fun i v g e => by simp at e⟩
theorem SomeAt.cons {C : Addr} {H : Hp} {a : Str} {A B : List (List Nat)} {eA eB : List Nat} {vs : List V} {gs : List (Bool → Bool → Bool)} {q : Addr} {R : List (List Nat)} {eR : List Nat} {g : Bool → Bool → Bool} (hL : LG C H q a R eR) (hl : R.length ≤ 40) (hw : ∀ w : List Nat, (∀ j ∈ w, j < a.length) → Wd R eR w = g (Wd A eA w) (Wd B eB w))
    (h : SomeAt C H a A B eA eB vs gs) : SomeAt C H a A B eA eB (.ref q :: vs) (g :: gs) := by
  refine ⟨by rw [List.length_cons, List.length_cons, h.1], fun i v g' e1 e2 => ?_⟩
  cases i with
  | zero =>
    obtain rfl := Option.some.inj e1
    obtain rfl := Option.some.inj e2
    exact ⟨q, R, eR, rfl, hL, hl, hw⟩
  | succ i => exact h.2 i v g' e1 e2
def spTr (C : Addr) : Sp := fun vs H Q _ => ∃ (a : Str) (l1 l2 p p' : Addr) (m0 m1 : V) (more : List V) (A B A' B' : List (List Nat)) (eA eB eA' eB' : List Nat), vs = [.str a, .ref l1, .ref l2] ∧ H l1 = some (.lst (m0 :: m1 :: more)) ∧ MachAt H m0 A eA ∧ MachAt H m1 B eB ∧ Mach A a.length eA ∧ Mach B a.length eB ∧
  H l2 = some (.lst [.ref p, .ref p']) ∧ LG C H p a A' eA' ∧ LG C H p' a B' eB' ∧ Abc a ∧ a.length ≤ 3 ∧ A'.length ≤ 4 ∧ B'.length ≤ 4 ∧ (∀ w : List Nat, (∀ j ∈ w, j < a.length) → Wd A' eA' w = Wd A eA w) ∧ (∀ w : List Nat, (∀ j ∈ w, j < a.length) → Wd B' eB' w = Wd B eB w) ∧ ∀ H', Same H H' → Q (.bl true) H'
theorem len_tr {C : Addr} : ∀ vs H Q E, spTr C vs H Q E → vs.length = (["_law_signs_here", "_law_parts", "_law_codes"] : List Str).length := fun vs H Q E ⟨_, _, _, _, _, _, _, _, _, _, _, _, _, _, _, _, e, _⟩ => by rw [e]; rfl
section
variable {P : Program} {w : World} {K : PySem.W.Frag} {mg : Str → Option Value} {base : Heap} {C CO : Addr}
theorem scTr : FnScope nTr ["_law_signs_here", "_law_parts", "_law_codes"] (defScope sTr) := ⟨rfl, rfl, rfl, by decide +kernel, rfl, by decide +kernel, by decide +kernel⟩
theorem ok_tr {f fE fF fI2 fIl fO fA fS fV fIn : Addr} {fd fdE fdF fdI2 fdIl fdO fdA fdS fdV fdIn : FuncData} (F : Fun K "_law_texts_right" "_law_texts_right" sTr f fd) (T : TxtTr mg fE fF fI2 fIl)
    (GE : FnOk P w K mg base CX0 1 fE fdE ["_law_signs_here", "_law_far_here"] spEvery) (bE : L2.Binds K fdE ["_law_signs_here", "_law_far_here"] []) (kE : PySem.W.keepIn K (.ref fE) = true)
    (GF : FnOk P w K mg base CX0 1 fF fdF ["_law_signs_here"] spFar) (bF : L2.Binds K fdF ["_law_signs_here"] []) (kF : PySem.W.keepIn K (.ref fF) = true)
    (GI2 : FnOk P w K mg base CX0 2 fI2 fdI2 ["_law_signs_here", "_law_made", "_law_word"] (spIsIn K)) (bI2 : L2.Binds K fdI2 ["_law_signs_here", "_law_made", "_law_word"] []) (kI2 : PySem.W.keepIn K (.ref fI2) = true)
    (GIl : FnG P w K mg base 7 fIl fdIl ["_law_signs_here", "_law_made"] (spIl C)) (bIl : L2.Binds K fdIl ["_law_signs_here", "_law_made"] []) (kIl : PySem.W.keepIn K (.ref fIl) = true)
    (sf : PySem.W.selfFirst K C = true)
    (hOr : PySem.W.findIn K (.ref C) (PySem.dunder Operator.BitOr.info.2) = some (some (.ref fO))) (fOr : PySem.W.isFn K (.ref fO) = true) (GOr : FnOk P w K mg base (L2.CX P w) 8 fO fdO ["self", "other"] (spOp C CO fun x y => x || y)) (bOr : L2.Binds K fdO ["self", "other"] [])
    (hAnd : PySem.W.findIn K (.ref C) (PySem.dunder Operator.BitAnd.info.2) = some (some (.ref fA))) (fAnd : PySem.W.isFn K (.ref fA) = true) (GAnd : FnOk P w K mg base (L2.CX P w) 8 fA fdA ["self", "other"] (spOp C CO fun x y => x && y)) (bAnd : L2.Binds K fdA ["self", "other"] [])
    (hSub : PySem.W.findIn K (.ref C) (PySem.dunder Operator.Sub.info.2) = some (some (.ref fS))) (fSub : PySem.W.isFn K (.ref fS) = true) (GSub : FnOk P w K mg base (L2.CX P w) 8 fS fdS ["self", "other"] (spOp C CO fun x y => x && !y)) (bSub : L2.Binds K fdS ["self", "other"] [])
    (hInv : PySem.W.findIn K (.ref C) "__invert__" = some (some (.ref fV))) (fInv : PySem.W.isFn K (.ref fV) = true) (GInv : FnOk P w K mg base CX0 7 fV fdV ["self"] (spInv C)) (bInv : L2.Binds K fdV ["self"] [])
    (mIn : Meth K C "__contains__" fIn) (GIn : FnOk P w K mg base CX0 2 fIn fdIn ["self", "text"] (spLIn K C)) (bIn : L2.Binds K fdIn ["self", "text"] []) :
    FnG P w K mg base 9 f fd ["_law_signs_here", "_law_parts", "_law_codes"] (spTr C) := by
  refine FunG F scTr len_tr (fun cdv Ar outer s H vs Q E hr hg h => ?_)
  obtain ⟨a, l1, l2, p, p', m0, m1, more, A, B, A', B', eA, eB, eA', eB', rfl, hl1, hA, hB, MA, MB, hl2, hP, hP', X, h3, fA', fB', wA, wB, q⟩ := h
  have hr1 : Room 1 _ := hr.mono (by decide)
  have hr2 : Room 2 _ := hr.mono (by decide)
  have hr7 : Room 7 _ := hr.mono (by decide)
  have hu : (Ar.deeper (envOfC "_law_texts_right" (defScope sTr) s.heap.objs.size f cdv)).units + 100 < cLine := by
    have z := hr.un
    omega
  refine ⟨_, (pss_cons (ps_asg (pv 2) (pg_lst rfl (pgs_cons (pg_name (i := 3) scTr.nd rfl (Or.inl rfl)) (pgs_cons (pg_name (i := 4) scTr.nd rfl (Or.inl rfl)) pgs_nil))))
    (pss_cons (ps_set (i := 5) scTr.nd rfl (Or.inl rfl) (pe_lst (pa_cons (pe_op (op_binO sf hOr fOr GOr hr bOr passF) (pv 3) (pv 4)) (pa_cons (pe_op (op_binO sf hAnd fAnd GAnd hr bAnd passF) (pv 3) (pv 4)) (pa_cons (pe_op (op_binO sf hSub fSub GSub hr bSub passF) (pv 3) (pv 4)) (pa_cons (pe_op (op_binO sf hSub fSub GSub hr bSub passF) (pv 4) (pv 3)) (pa_cons (pe_un (un_invO hInv fInv GInv hr7 bInv pass0) (pv 3)) (pa_cons (pe_un (un_invO hInv fInv GInv hr7 bInv pass0) (pv 4)) pa_nil))))))))
    (pss_cons (ps_for PassesOwn.never rfl (pi_list (pe_call GE hr1 rfl T.every kE bE .nil pass0 (pa_cons (pv 0) (pa_cons (pe_call GF hr1 rfl T.far kF bF .nil pass0 (pa_cons (pv 0) pa_nil)) pa_nil)))) (pg_name (i := 6) scTr.nd rfl (Or.inr rfl))
      (pss_cons (ps_par (i := 7) (j := 8) rfl scTr.nd rfl rfl (by decide) rfl rfl (pa_cons (pe_call GI2 hr2 rfl T.isin kI2 bI2 .nil pass0 (pa_cons (pv 0) (pa_cons (pe_ix ix_list (pv 1) pe_int (fun _ _ => rfl)) (pa_cons (pv 6) pa_nil)))) (pa_cons (pe_call GI2 hr2 rfl T.isin kI2 bI2 .nil pass0 (pa_cons (pv 0) (pa_cons (pe_ix ix_list (pv 1) pe_int (fun _ _ => rfl)) (pa_cons (pv 6) pa_nil)))) pa_nil)) (by rfl))
      (C8.pss_cut (ps_set (i := 9) scTr.nd rfl (Or.inl rfl) (pe_lst (pa_cons (pe_or (pv 7) (pe_one (pv 8))) (pa_cons (pe_and (pv 7) (pe_one (pv 8))) (pa_cons (pe_and (pv 7) (pe_one (pe_not (pv 8)))) (pa_cons (pe_and (pv 8) (pe_one (pe_not (pv 7)))) (pa_cons (pe_not (pv 7)) (pa_cons (pe_not (pv 8)) pa_nil))))))))
      (pss_one (ps_if (pt_cmpR (op_neD hr.units) (pe_lc (own := [("_law_made", 10)]) (g := gName 10) (tt := tYes) rfl scTr.nd (pi_list (pv 5)) (blkOk_by (N := nTr) (sc := defScope sTr) (by decide +kernel)) (fun _ _ _ _ _ => by exact (pg_name (i := 10) scTr.nd rfl (Or.inl rfl))) (fun _ _ _ _ _ => pts_nil) (fun _ _ _ _ _ => by exact (pe_cmpR (op_inO mIn GIn hr2 bIn .nil pass0) (pv 6) (pv 10) (by rfl)))) (pv 9) (nomark _)) (pss_one (ps_ret pe_bl)) pss_nil)))))
    (pss_one (ps_ret (pe_cmpR (op_eqNil hr.units) (pe_lc (own := [("_law_made", 10)]) (g := gName 10) (tt := _) rfl scTr.nd (pi_list (pv 5)) (blkOk_by (N := nTr) (sc := defScope sTr) (by decide +kernel)) (fun _ _ _ _ _ => by exact (pg_name (i := 10) scTr.nd rfl (Or.inl rfl))) (fun _ _ _ _ _ => by exact pts_one (pt_not (pt_val (pe_callG GIl len_il hg hr7 rfl T.least kIl bIl .nil pass0 (pa_cons (pv 0) (pa_cons (pv 10) pa_nil)))))) (fun _ _ _ _ _ => by exact (pv 10))) (pe_lst pa_nil) (nomark _))))))), ?_⟩
  obtain ⟨x1, x4⟩ := X.four
  obtain ⟨dx, _, _, h1, _, _⟩ := id hP.at_
  obtain ⟨dy, _, _, g1, _, _⟩ := id hP'.at_
  have sA := hP.ok.sq
  have fw : A'.length * B'.length ≤ 16 := Nat.mul_le_mul fA' fB'
  have fw' : B'.length * A'.length ≤ 16 := Nat.mul_le_mul fB' fA'
  refine ⟨_, rfl, l2, _, rfl, SqL.of hl2, rfl, _, _, rfl, _, _, rfl, rfl, ?_⟩
  refine ⟨_, rfl, _, rfl, p, dx, _, p', dy, _, rfl, rfl, h1, g1, p, p', a, a, A', B', eA', eB', rfl, hP, hP', X, by omega, fun z => absurd rfl z, fun _ q1 R1 e1 H1 s1 L1 W1 k1 => ⟨⟨_, rfl⟩, ?_⟩⟩
  have P1 := hP.same s1
  have P1' := hP'.same s1
  have h1a := s1 _ _ h1
  have g1a := s1 _ _ g1
  refine ⟨_, rfl, _, rfl, p, dx, _, p', dy, _, rfl, rfl, h1a, g1a, p, p', a, a, A', B', eA', eB', rfl, P1, P1', X, by omega, fun z => absurd rfl z, fun _ q2 R2 e2 H2 s2 L2 W2 k2 => ⟨⟨_, rfl⟩, ?_⟩⟩
  have P2 := P1.same s2
  have P2' := P1'.same s2
  have h1b := s2 _ _ h1a
  have g1b := s2 _ _ g1a
  refine ⟨_, rfl, _, rfl, p, dx, _, p', dy, _, rfl, rfl, h1b, g1b, p, p', a, a, A', B', eA', eB', rfl, P2, P2', X, by omega, fun z => absurd rfl z, fun _ q3 R3 e3 H3 s3 L3 W3 k3 => ⟨⟨_, rfl⟩, ?_⟩⟩
  have P3 := P2.same s3
  have P3' := P2'.same s3
  have h1c := s3 _ _ h1b
  have g1c := s3 _ _ g1b
  refine ⟨_, rfl, _, rfl, p', dy, _, p, dx, _, rfl, rfl, g1c, h1c, p', p, a, a, B', A', eB', eA', rfl, P3', P3, X, by omega, fun z => absurd rfl z, fun _ q4 R4 e4 H4 s4 L4 W4 k4 => ⟨⟨_, rfl⟩, ?_⟩⟩
  have P4 := P3.same s4
  have P4' := P3'.same s4
  have h1d := s4 _ _ h1c
  have g1d := s4 _ _ g1c
  refine ⟨_, rfl, p, dx, _, rfl, h1d, p, a, A', eA', rfl, P4, X, fun q5 R5 e5 H5 s5 L5 W5 k5 => ?_⟩
  have P5' := P4'.same s5
  have g1e := s5 _ _ g1d
  refine ⟨_, rfl, p', dy, _, rfl, g1e, p', a, B', eB', rfl, P5', X, fun q6 R6 e6 H6 s6 L6 W6 k6 => ?_⟩
  refine ⟨(by show 6 ≤ sizeLine; decide), fun ls hls => ?_⟩
  have s7 := same_new hls (.lst [.ref q1, .ref q2, .ref q3, .ref q4, .ref q5, .ref q6])
  have els : upd H6 ls (.lst [.ref q1, .ref q2, .ref q3, .ref q4, .ref q5, .ref q6]) ls = some (.lst [.ref q1, .ref q2, .ref q3, .ref q4, .ref q5, .ref q6]) := upd_same
  have s27 := ((((s2.trans s3).trans s4).trans s5).trans s6).trans s7
  have s37 := (((s3.trans s4).trans s5).trans s6).trans s7
  have s47 := ((s4.trans s5).trans s6).trans s7
  have s57 := (s5.trans s6).trans s7
  have S6 : SomeAt C (upd H6 ls (.lst [.ref q1, .ref q2, .ref q3, .ref q4, .ref q5, .ref q6])) a A B eA eB [.ref q1, .ref q2, .ref q3, .ref q4, .ref q5, .ref q6] gs6 :=
    .cons (L1.same s27) (by omega) (fun w hw => by rw [W1 w hw, wA w hw, wB w hw]) (.cons (L2.same s37) (by omega) (fun w hw => by rw [W2 w hw, wA w hw, wB w hw]) (.cons (L3.same s47) (by omega) (fun w hw => by rw [W3 w hw, wA w hw, wB w hw])
      (.cons (L4.same s57) (by omega) (fun w hw => by rw [W4 w hw, wA w hw, wB w hw]) (.cons (L5.same (s6.trans s7)) (by omega) (fun w hw => by rw [W5 w hw, wA w hw]) (.cons (L6.same s7) (by omega) (fun w hw => by rw [W6 w hw, wB w hw]) .nil)))))
  have s17 := s1.trans s27
  show tSeq _ _ _ [some (V.str a), some (V.ref l1), some (V.ref l2), some (V.ref p), some (V.ref p'), some (V.ref ls), none, none, none, none, none] _
  generalize hvs : ([.ref q1, .ref q2, .ref q3, .ref q4, .ref q5, .ref q6] : List V) = vs6 at *
  generalize upd H6 ls (.lst vs6) = H7 at *
  have vl : vs6.length = 6 := by rw [← hvs]; rfl
  clear P1 P1' h1a g1a P2 P2' h1b g1b P3 P3' h1c g1c P4 P4' h1d g1d P5' g1e s1 s2 s3 s4 s5 s6 s7 s27 s37 s47 s57 L1 L2 L3 L4 L5 L6 W1 W2 W3 W4 W5 W6 hls
  have hA7 := hA.tk (tk_same s17)
  have hB7 := hB.tk (tk_same s17)
  have hl17 := s17 _ _ hl1
  have pw : a.length ^ farN a.length ≤ 4096 ∧ farN a.length ≤ 12 := by
    have : a.length = 1 ∨ a.length = 2 ∨ a.length = 3 := by omega
    rcases this with e | e | e <;> rw [e] <;> decide
  refine ⟨_, rfl, _, rfl, a, rfl, x1, x4, fun H8 s8 => ⟨a, farN a.length, rfl, x1, x4, pw.2, pw.1, fun r ws H9 s9 er ov lw => ⟨r, rfl, ⟨_, SqL.of er⟩, ?_⟩⟩⟩
  have s79 := s8.trans s9
  have hal : (cp a).length = a.length := by rw [Array.length_toList]; rfl
  obtain ⟨ta, vra, vea, rfl, hta, hRa, hEa⟩ := hA7.tk (tk_same s79)
  obtain ⟨tb, vrb, veb, rfl, htb, hRb, hEb⟩ := hB7.tk (tk_same s79)
  have S9 := S6.same s79
  have els9 := s79 _ _ els
  have hl19 := s79 _ _ hl17
  have s09 := s17.trans s79
  clear hA7 hB7 S6 els hl17 s8 s9 s79 s17 hvs
  refine for_it (walk_list (xs := ws.map V.str)) (fun i σ H' => ∃ v6 v7 v8 v9 : Option V, σ = [some (V.str a), some (V.ref l1), some (V.ref l2), some (V.ref p), some (V.ref p'), some (V.ref ls), v6, v7, v8, v9, none] ∧ Same H9 H')
    ⟨none, none, none, none, rfl, Same.refl _⟩ (fun i σ H' _ ⟨_, _, _, _, _, s⟩ => SqL.of (s _ _ er)) ?_ ?_
  · rintro i y σ H10 H11 hi ⟨v6, v7, v8, v9, rfl, s10⟩ ⟨rfl, hy⟩
    rw [List.getElem?_map] at hy
    obtain ⟨u, hu', rfl⟩ := Option.map_eq_some_iff.mp hy
    obtain ⟨o1, o2⟩ := ov u (List.mem_of_getElem? hu')
    have hw : ∀ j ∈ lets a u, j < a.length := by
      rw [← hal]
      exact lets_lt o2
    have at0 : atI (V.ref ta :: V.ref tb :: more) 0 = some (V.ref ta) := atI_nat (j := 0) rfl
    have at1 : atI (V.ref ta :: V.ref tb :: more) 1 = some (V.ref tb) := atI_nat (j := 1) rfl
    have hta' := s10 _ _ hta
    have htb' := s10 _ _ htb
    refine ⟨_, rfl, _, rfl, l1, _, _, _, rfl, rfl, SqL.of (s10 _ _ hl19), at0, _, rfl, a, u, ta, vra, vea, A, eA, rfl, SqT.of hta', (hRa.same s10).R, (hEa.same s10).T, by rw [hal]; exact MA.sq, MA.sq.some, o2, ?_⟩
    refine ⟨_, rfl, _, rfl, l1, _, _, _, rfl, rfl, SqL.of (s10 _ _ hl19), at1, _, rfl, a, u, tb, vrb, veb, B, eB, rfl, SqT.of htb', (hRb.same s10).R, (hEb.same s10).T, by rw [hal]; exact MB.sq, MB.sq.some, o2, ?_⟩
    refine ⟨_, _, rfl, ?_⟩
    have ex : decide (led A (lets a u) 0 ∈ eA) = Wd A eA (lets a u) := rfl
    have ey : decide (led B (lets a u) 0 ∈ eB) = Wd B eB (lets a u) := rfl
    rw [ex, ey]
    clear ex ey
    refine ⟨fun σ' H' => ∃ ld : Addr, σ' = [some (V.str a), some (V.ref l1), some (V.ref l2), some (V.ref p), some (V.ref p'), some (V.ref ls), some (V.str u), some (V.bl (Wd A eA (lets a u))), some (V.bl (Wd B eB (lets a u))), some (V.ref ld), none] ∧
      H' ld = some (.lst ((gs6.map fun g => g (Wd A eA (lets a u)) (Wd B eB (lets a u))).map V.bl)) ∧ Same H11 H', ?_, ?_⟩
    · generalize Wd A eA (lets a u) = xb
      generalize Wd B eB (lets a u) = yb
      cases xb <;> cases yb
      · refine ⟨_, rfl, _, rfl, if_fl rfl ⟨_, rfl, ?_⟩⟩
        refine ⟨_, rfl, _, rfl, if_fl rfl ?_⟩
        refine ⟨_, rfl, _, rfl, if_fl rfl ?_⟩
        refine ⟨_, rfl, _, rfl, if_fl rfl ?_⟩
        refine ⟨_, rfl, _, rfl, ?_⟩
        refine ⟨_, rfl, _, rfl, ?_⟩
        exact ⟨(by show 6 ≤ sizeLine; decide), fun l hl => ⟨l, rfl, upd_same, (same_new hl _)⟩⟩
      · refine ⟨_, rfl, _, rfl, if_fl rfl ⟨_, rfl, ?_⟩⟩
        refine ⟨_, rfl, _, rfl, if_fl rfl ?_⟩
        refine ⟨_, rfl, _, rfl, if_fl rfl ?_⟩
        refine ⟨_, rfl, _, rfl, if_tr rfl ⟨_, rfl, _, rfl, ?_⟩⟩
        refine ⟨_, rfl, _, rfl, ?_⟩
        refine ⟨_, rfl, _, rfl, ?_⟩
        exact ⟨(by show 6 ≤ sizeLine; decide), fun l hl => ⟨l, rfl, upd_same, (same_new hl _)⟩⟩
      · refine ⟨_, rfl, _, rfl, if_tr rfl ?_⟩
        refine ⟨_, rfl, _, rfl, if_tr rfl ⟨_, rfl, ?_⟩⟩
        refine ⟨_, rfl, _, rfl, if_tr rfl ⟨_, rfl, _, rfl, ?_⟩⟩
        refine ⟨_, rfl, _, rfl, if_fl rfl ?_⟩
        refine ⟨_, rfl, _, rfl, ?_⟩
        refine ⟨_, rfl, _, rfl, ?_⟩
        exact ⟨(by show 6 ≤ sizeLine; decide), fun l hl => ⟨l, rfl, upd_same, (same_new hl _)⟩⟩
      · refine ⟨_, rfl, _, rfl, if_tr rfl ?_⟩
        refine ⟨_, rfl, _, rfl, if_tr rfl ⟨_, rfl, ?_⟩⟩
        refine ⟨_, rfl, _, rfl, if_tr rfl ⟨_, rfl, _, rfl, ?_⟩⟩
        refine ⟨_, rfl, _, rfl, if_tr rfl ⟨_, rfl, _, rfl, ?_⟩⟩
        refine ⟨_, rfl, _, rfl, ?_⟩
        refine ⟨_, rfl, _, rfl, ?_⟩
        exact ⟨(by show 6 ≤ sizeLine; decide), fun l hl => ⟨l, rfl, upd_same, (same_new hl _)⟩⟩
    rintro σ' H12 ⟨ld, rfl, eld, s12⟩
    have s9c := s10.trans s12
    have S12 := S9.same s9c
    have els12 := s9c _ _ els9
    refine ⟨_, rfl, ls, rfl, ⟨_, SqL.of els12⟩, fun D hD => ?_⟩
    refine lc_it (walk_list (xs := vs6)) (fun j H' => H' D = some (.lst (((gs6.take j).map fun g => g (Wd A eA (lets a u)) (Wd B eB (lets a u))).map V.bl)) ∧ Same H12 H') ⟨upd_same, same_new hD _⟩ (fun j H' _ ⟨_, s⟩ => SqL.of (s _ _ els12)) ?_ ?_
    · rintro j v H13 H14 hj ⟨n1, n2⟩ ⟨rfl, hv⟩
      have hjg : j < gs6.length := by rw [← S12.1]; exact hj
      obtain ⟨g, hg'⟩ : ∃ g, gs6[j]? = some g := ⟨_, List.getElem?_eq_getElem hjg⟩
      obtain ⟨qj, Rj, ej, rfl, Lj, kj, Wj⟩ := S12.2 j v g hv hg'
      have Lj' := Lj.same n2
      obtain ⟨dj, _, _, ej1, _, _⟩ := id Lj'.at_
      refine ⟨rfl, _, rfl, _, rfl, qj, dj, _, rfl, ej1, qj, u, a, Rj, ej, rfl, Lj', X, o2, by omega, fun H15 s15 => ⟨_, rfl, _, s15 _ _ n1, ?_, ?_, fun b' o' e' => ?_⟩⟩
      · rw [List.length_map, List.length_map]
        refine Nat.lt_of_le_of_lt (List.length_take_le' _ _) ?_
        show 6 < sizeLine
        decide
      · rw [upd_same, List.take_add_one, hg', Wj _ hw]
        show _ = some (HO.lst (((gs6.take j ++ [g]).map _).map V.bl))
        rw [List.map_append, List.map_append]
        rfl
      · rw [upd_ne (ne_of_none e' hD)]
        exact s15 _ _ (n2 _ _ e')
    rintro H13 ⟨n1, n2⟩
    rw [show gs6.take vs6.length = gs6 by rw [vl]; rfl] at n1
    refine ⟨_, rfl, _, _, dp_bls (SqL.of n1), dp_bls (SqL.of (n2 _ _ eld)), bls_shaped _, bls_shaped _, _, rfl, ?_⟩
    rw [bls_eqv, decide_eq_true rfl]
    refine if_fl rfl ⟨_, _, _, _, rfl, s9c.trans n2⟩
  rintro σ H10 ⟨v6, v7, v8, v9, rfl, s10⟩
  have S10 := S9.same s10
  have els10 := s10 _ _ els9
  refine ⟨_, rfl, ls, rfl, ⟨_, SqL.of els10⟩, fun D hD => ?_⟩
  refine lc_it (walk_list (xs := vs6)) (fun j H' => H' D = some (.lst []) ∧ Same H10 H') ⟨upd_same, same_new hD _⟩ (fun j H' _ ⟨_, s⟩ => SqL.of (s _ _ els10)) ?_ ?_
  · rintro j v H13 H14 hj ⟨n1, n2⟩ ⟨rfl, hv⟩
    have hjg : j < gs6.length := by rw [← S10.1]; exact hj
    obtain ⟨g, hg'⟩ : ∃ g, gs6[j]? = some g := ⟨_, List.getElem?_eq_getElem hjg⟩
    obtain ⟨qj, Rj, ej, rfl, Lj, kj, Wj⟩ := S10.2 j v g hv hg'
    refine ⟨rfl, _, rfl, _, rfl, qj, a, Rj, ej, rfl, Lj.same n2, X, kj, fun H15 s15 => ⟨_, rfl, ?_⟩⟩
    exact if_fl rfl ⟨s15 _ _ n1, n2.trans s15⟩
  rintro H13 ⟨n1, n2⟩
  refine ⟨Nat.zero_le _, fun pe hpe => ?_⟩
  have sp := same_new hpe (.lst [])
  refine ⟨D, pe, _, rfl, rfl, SqL.of (sp _ _ n1), SqL.of upd_same, ?_⟩
  exact q _ (((s09.trans s10).trans n2).trans sp)
end
end Vf

set_option Elab.async false
set_option linter.all false
set_option maxRecDepth 100000
set_option maxHeartbeats 8000000
namespace Vf
open PySem PySem.Spec PyProof.Rows L2 L2.Vx Vs Vm Vd
/-! ### the rules of sets -/
abbrev sRu : Stmt := top 58
abbrev nRu : List Str := ["_law_one", "_law_two", "_law_three", "_law_some"]
/-- a language with these words and not too many states -/
def Lw (C : Addr) (H : Hp) (p : Addr) (a : Str) (f : List Nat → Bool) (n : Nat) : Prop := ∃ (A : List (List Nat)) (e : List Nat), LG C H p a A e ∧ (∀ w : List Nat, (∀ i ∈ w, i < a.length) → Wd A e w = f w) ∧ A.length ≤ n
theorem Lw.same {C : Addr} {H H' : Hp} {p : Addr} {a : Str} {f : List Nat → Bool} {n : Nat} (h : Lw C H p a f n) (s : Same H H') : Lw C H' p a f n := by
  obtain ⟨A, e, h1, h2⟩ := h
  exact ⟨A, e, h1.same s, h2⟩
section
variable {K : PySem.W.Frag} {C CO : Addr} {H : Hp} {p p' : Addr} {a : Str} {f f' : List Nat → Bool} {n m : Nat} {Q : VK}
theorem step_op {g : Bool → Bool → Bool} (h : Lw C H p a f n) (h' : Lw C H p' a f' m) (X : Abc a) (few : n * m ≤ 1000) (k : ∀ q H', Same H H' → Lw C H' q a (fun w => g (f w) (f' w)) (n * m) → Q (.ref q) H') : rBinO C (spOp C CO g) (fun _ _ _ => False) (.ref p) (.ref p') H Q := by
  obtain ⟨A, e, h1, h2, h3⟩ := h
  obtain ⟨B, e', g1, g2, g3⟩ := h'
  obtain ⟨dx, _, _, x1, _, _⟩ := id h1.at_
  obtain ⟨dy, _, _, y1, _, _⟩ := id g1.at_
  have few2 : A.length * B.length ≤ n * m := Nat.mul_le_mul h3 g3
  exact ⟨p, dx, _, p', dy, _, rfl, rfl, x1, y1, p, p', a, a, A, B, e, e', rfl, h1, g1, X, Nat.le_trans few2 few, fun z => absurd rfl z, fun _ q R eR H' s L W kk => ⟨⟨_, rfl⟩, k q H' s ⟨R, eR, L, fun w hw => by rw [W w hw, h2 w hw, g2 w hw], Nat.le_trans kk few2⟩⟩⟩
theorem step_inv (h : Lw C H p a f n) (X : Abc a) {E : XK} (k : ∀ q H', Same H H' → Lw C H' q a (fun w => !f w) n → Q (.ref q) H') : rInvO C (spInv C) E (.ref p) H Q := by
  obtain ⟨A, e, h1, h2, h3⟩ := h
  obtain ⟨dx, _, _, x1, _, _⟩ := id h1.at_
  exact ⟨p, dx, _, rfl, x1, p, a, A, e, rfl, h1, X, fun q R eR H' s L W kk => k q H' s ⟨R, eR, L, fun w hw => by rw [W w hw, h2 w hw], Nat.le_trans kk h3⟩⟩
theorem step_eq (h : Lw C H p a f n) (h' : Lw C H p' a f' m) {E : XK} (e0 : ∀ w : List Nat, f w = f' w) (k : Q (.bl true) H) : rEqO K C (spLEq K C) E (.ref p) (.ref p') H Q := by
  obtain ⟨A, e, h1, h2, h3⟩ := h
  obtain ⟨B, e', g1, g2, g3⟩ := h'
  obtain ⟨dx, _, _, x1, _, _⟩ := id h1.at_
  obtain ⟨dy, _, _, y1, _, _⟩ := id g1.at_
  obtain ⟨rfl, rfl⟩ := least_uniq h1.ok g1.ok fun w hw => by
    have z : Wd A e w = Wd B e' w := by rw [h2 w hw, g2 w hw, e0]
    unfold Wd at z
    exact decide_eq_decide.mp z
  refine ⟨p, dx, _, rfl, x1, .inl ⟨p', dy, _, rfl, y1⟩, p, a, A, e, .ref p', rfl, h1.at_, .inl ⟨p', a, A, e, rfl, g1.at_, _, rfl, ?_⟩⟩
  rw [decide_eq_true rfl, decide_eq_true rfl, decide_eq_true rfl]
  exact k
theorem step_le (h : Lw C H p a f n) (h' : Lw C H p' a f' m) (few : n * m ≤ 1000) (e0 : ∀ w : List Nat, f w = true → f' w = true) (k : ∀ H', Same H H' → Q (.bl true) H') : rLeO C (spLe C CO) (fun _ _ _ => False) (.ref p) (.ref p') H Q := by
  obtain ⟨A, e, h1, h2, h3⟩ := h
  obtain ⟨B, e', g1, g2, g3⟩ := h'
  obtain ⟨dx, _, _, x1, _, _⟩ := id h1.at_
  obtain ⟨dy, _, _, y1, _, _⟩ := id g1.at_
  refine ⟨p, dx, _, p', dy, _, rfl, rfl, x1, y1, p, p', a, a, A, B, e, e', rfl, h1, g1, Nat.le_trans (Nat.mul_le_mul h3 g3) few, fun z => absurd rfl z, fun _ r H' s hr => ⟨r, rfl, ?_⟩⟩
  obtain rfl : r = true := hr.mpr fun w hw z => by
    rw [g2 w hw]
    exact e0 w (by rw [← h2 w hw]; exact z)
  exact k H' s
end
def spRu (C : Addr) : Sp := fun vs H Q _ => ∃ (p1 p2 p3 : Addr) (a : Str) (x y z : List Nat → Bool), vs = [.ref p1, .ref p2, .ref p3] ∧ Lw C H p1 a x 4 ∧ Lw C H p2 a y 4 ∧ Lw C H p3 a z 4 ∧ Abc a ∧ ∀ H', Same H H' → Q (.bl true) H'
section
variable {P : Program} {w : World} {K : PySem.W.Frag} {mg : Str → Option Value} {base : Heap} {C CO : Addr}
theorem scRu : FnScope nRu ["_law_one", "_law_two", "_law_three"] (defScope sRu) := ⟨rfl, rfl, rfl, by decide +kernel, rfl, by decide +kernel, by decide +kernel⟩
theorem ok_ru {f fO fA fS fV fL fQ : Addr} {fd fdO fdA fdS fdV fdL fdQ : FuncData} (F : Fun K "_law_rules_right" "_law_rules_right" sRu f fd)
    (sf : PySem.W.selfFirst K C = true)
    (hOr : PySem.W.findIn K (.ref C) (PySem.dunder Operator.BitOr.info.2) = some (some (.ref fO))) (fOr : PySem.W.isFn K (.ref fO) = true) (GOr : FnOk P w K mg base (L2.CX P w) 8 fO fdO ["self", "other"] (spOp C CO fun x y => x || y)) (bOr : L2.Binds K fdO ["self", "other"] [])
    (hAnd : PySem.W.findIn K (.ref C) (PySem.dunder Operator.BitAnd.info.2) = some (some (.ref fA))) (fAnd : PySem.W.isFn K (.ref fA) = true) (GAnd : FnOk P w K mg base (L2.CX P w) 8 fA fdA ["self", "other"] (spOp C CO fun x y => x && y)) (bAnd : L2.Binds K fdA ["self", "other"] [])
    (hSub : PySem.W.findIn K (.ref C) (PySem.dunder Operator.Sub.info.2) = some (some (.ref fS))) (fSub : PySem.W.isFn K (.ref fS) = true) (GSub : FnOk P w K mg base (L2.CX P w) 8 fS fdS ["self", "other"] (spOp C CO fun x y => x && !y)) (bSub : L2.Binds K fdS ["self", "other"] [])
    (hInv : PySem.W.findIn K (.ref C) "__invert__" = some (some (.ref fV))) (fInv : PySem.W.isFn K (.ref fV) = true) (GInv : FnOk P w K mg base CX0 7 fV fdV ["self"] (spInv C)) (bInv : L2.Binds K fdV ["self"] [])
    (hLe : PySem.W.findIn K (.ref C) "__le__" = some (some (.ref fL))) (fLe : PySem.W.isFn K (.ref fL) = true) (GLe : FnOk P w K mg base (L2.CX P w) 3 fL fdL ["self", "other"] (spLe C CO)) (bLe : L2.Binds K fdL ["self", "other"] [])
    (mQ : Meth K C "__eq__" fQ) (GQ : FnOk P w K mg base CX0 1 fQ fdQ ["self", "other"] (spLEq K C)) (bQ : L2.Binds K fdQ ["self", "other"] []) :
    FnOk P w K mg base CX0 9 f fd ["_law_one", "_law_two", "_law_three"] (spRu C) := by
  refine F.ok scRu (fun vs H Q E h => ?_) (fun cdv Ar outer s H0 vs Q E hr h => ?_)
  · obtain ⟨p1, p2, p3, a, x, y, z, rfl, _⟩ := h
    rfl
  obtain ⟨p1, p2, p3, a, x, y, z, rfl, B1_0, B2_0, B3_0, X, q⟩ := h
  have hr1 : Room 1 _ := hr.mono (by decide)
  have hr3 : Room 3 _ := hr.mono (by decide)
  have hr7 : Room 7 _ := hr.mono (by decide)
  have hu1 : (Ar.deeper (envOfC "_law_rules_right" (defScope sRu) s.heap.objs.size f cdv)).units < cLine := by
    have z := hr.un
    omega
  refine ⟨_, (pss_cons (ps_set (i := 3) scRu.nd rfl (Or.inl rfl) (pe_lst (pa_cons (pe_cmpR (op_eqO mQ.at_ mQ.fn GQ hr1 bQ pass0 hu1) (pe_op (op_binO sf hOr fOr GOr hr bOr passF) (pv 0) (pv 1)) (pe_op (op_binO sf hOr fOr GOr hr bOr passF) (pv 1) (pv 0)) (nomark _)) (pa_cons (pe_cmpR (op_eqO mQ.at_ mQ.fn GQ hr1 bQ pass0 hu1) (pe_op (op_binO sf hAnd fAnd GAnd hr bAnd passF) (pv 0) (pv 1)) (pe_op (op_binO sf hAnd fAnd GAnd hr bAnd passF) (pv 1) (pv 0)) (nomark _)) (pa_cons (pe_cmpR (op_eqO mQ.at_ mQ.fn GQ hr1 bQ pass0 hu1) (pe_un (un_invO hInv fInv GInv hr7 bInv pass0) (pe_un (un_invO hInv fInv GInv hr7 bInv pass0) (pv 0))) (pv 0) (nomark _)) (pa_cons (pe_cmpR (op_eqO mQ.at_ mQ.fn GQ hr1 bQ pass0 hu1) (pe_un (un_invO hInv fInv GInv hr7 bInv pass0) (pe_op (op_binO sf hOr fOr GOr hr bOr passF) (pv 0) (pv 1))) (pe_op (op_binO sf hAnd fAnd GAnd hr bAnd passF) (pe_un (un_invO hInv fInv GInv hr7 bInv pass0) (pv 0)) (pe_un (un_invO hInv fInv GInv hr7 bInv pass0) (pv 1))) (nomark _)) pa_nil))))))
    (pss_cons (ps_set (i := 3) scRu.nd rfl (Or.inl rfl) (pe_op op_cat (pv 3) (pe_lst (pa_cons (pe_cmpR (op_eqO mQ.at_ mQ.fn GQ hr1 bQ pass0 hu1) (pe_op (op_binO sf hOr fOr GOr hr bOr passF) (pe_op (op_binO sf hOr fOr GOr hr bOr passF) (pv 0) (pv 1)) (pv 2)) (pe_op (op_binO sf hOr fOr GOr hr bOr passF) (pv 0) (pe_op (op_binO sf hOr fOr GOr hr bOr passF) (pv 1) (pv 2))) (nomark _)) (pa_cons (pe_cmpR (op_eqO mQ.at_ mQ.fn GQ hr1 bQ pass0 hu1) (pe_op (op_binO sf hAnd fAnd GAnd hr bAnd passF) (pe_op (op_binO sf hAnd fAnd GAnd hr bAnd passF) (pv 0) (pv 1)) (pv 2)) (pe_op (op_binO sf hAnd fAnd GAnd hr bAnd passF) (pv 0) (pe_op (op_binO sf hAnd fAnd GAnd hr bAnd passF) (pv 1) (pv 2))) (nomark _)) pa_nil)))))
    (pss_cons (ps_set (i := 3) scRu.nd rfl (Or.inl rfl) (pe_op op_cat (pv 3) (pe_lst (pa_cons (pe_cmpR (op_eqO mQ.at_ mQ.fn GQ hr1 bQ pass0 hu1) (pe_op (op_binO sf hAnd fAnd GAnd hr bAnd passF) (pv 0) (pe_op (op_binO sf hOr fOr GOr hr bOr passF) (pv 1) (pv 2))) (pe_op (op_binO sf hOr fOr GOr hr bOr passF) (pe_op (op_binO sf hAnd fAnd GAnd hr bAnd passF) (pv 0) (pv 1)) (pe_op (op_binO sf hAnd fAnd GAnd hr bAnd passF) (pv 0) (pv 2))) (nomark _)) (pa_cons (pe_cmpR (op_eqO mQ.at_ mQ.fn GQ hr1 bQ pass0 hu1) (pe_op (op_binO sf hSub fSub GSub hr bSub passF) (pv 0) (pv 1)) (pe_op (op_binO sf hAnd fAnd GAnd hr bAnd passF) (pv 0) (pe_un (un_invO hInv fInv GInv hr7 bInv pass0) (pv 1))) (nomark _)) (pa_cons (pe_cmpR (op_eqO mQ.at_ mQ.fn GQ hr1 bQ pass0 hu1) (pe_op (op_binO sf hOr fOr GOr hr bOr passF) (pv 0) (pv 0)) (pv 0) (nomark _)) pa_nil))))))
    (pss_cons (ps_set (i := 3) scRu.nd rfl (Or.inl rfl) (pe_op op_cat (pv 3) (pe_lst (pa_cons (pe_cmpR (op_leO hLe fLe GLe hr3 bLe passF hu1) (pe_op (op_binO sf hAnd fAnd GAnd hr bAnd passF) (pv 0) (pv 1)) (pv 0) (nomark _)) (pa_cons (pe_cmpR (op_leO hLe fLe GLe hr3 bLe passF hu1) (pv 0) (pe_op (op_binO sf hOr fOr GOr hr bOr passF) (pv 0) (pv 1)) (nomark _)) (pa_cons (pe_cmpR (op_leO hLe fLe GLe hr3 bLe passF hu1) (pe_op (op_binO sf hSub fSub GSub hr bSub passF) (pv 0) (pv 1)) (pv 0) (nomark _)) (pa_cons (pe_cmpR (op_leO hLe fLe GLe hr3 bLe passF hu1) (pe_op (op_binO sf hAnd fAnd GAnd hr bAnd passF) (pe_op (op_binO sf hSub fSub GSub hr bSub passF) (pv 0) (pv 1)) (pv 1)) (pv 2) (nomark _)) pa_nil)))))))
    (pss_one (ps_ret (pe_cmpR (op_eqD hr.units) (pv 3) (pe_op op_rep (pe_lst (pa_cons pe_bl pa_nil)) pe_int) (nomark _)))))))), ?_⟩
  have S_0 := Same.refl H0
  refine ⟨_, rfl, ?_⟩
  refine ⟨_, rfl, ?_⟩
  refine step_op B1_0 B2_0 X (by decide) fun q_T1 H1 s_1 T1_1 => ?_
  have B1_1 := B1_0.same s_1
  have B2_1 := B2_0.same s_1
  have B3_1 := B3_0.same s_1
  have S_1 := S_0.trans s_1
  clear B1_0 B2_0 B3_0 S_0 s_1
  refine ⟨_, rfl, ?_⟩
  refine ⟨_, rfl, ?_⟩
  refine step_op B2_1 B1_1 X (by decide) fun q_T2 H2 s_2 T2_2 => ?_
  have B1_2 := B1_1.same s_2
  have B2_2 := B2_1.same s_2
  have B3_2 := B3_1.same s_2
  have T1_2 := T1_1.same s_2
  have S_2 := S_1.trans s_2
  clear B1_1 B2_1 B3_1 T1_1 S_1 s_2
  refine step_eq T1_2 T2_2 (fun w => ?_) ?_
  · show ((x w) || (y w)) = ((y w) || (x w))
    cases x w <;> cases y w <;> cases z w <;> rfl
  clear T1_2
  clear T2_2
  refine ⟨_, rfl, ?_⟩
  refine ⟨_, rfl, ?_⟩
  refine step_op B1_2 B2_2 X (by decide) fun q_T3 H3 s_3 T3_3 => ?_
  have B1_3 := B1_2.same s_3
  have B2_3 := B2_2.same s_3
  have B3_3 := B3_2.same s_3
  have S_3 := S_2.trans s_3
  clear B1_2 B2_2 B3_2 S_2 s_3
  refine ⟨_, rfl, ?_⟩
  refine ⟨_, rfl, ?_⟩
  refine step_op B2_3 B1_3 X (by decide) fun q_T4 H4 s_4 T4_4 => ?_
  have B1_4 := B1_3.same s_4
  have B2_4 := B2_3.same s_4
  have B3_4 := B3_3.same s_4
  have T3_4 := T3_3.same s_4
  have S_4 := S_3.trans s_4
  clear B1_3 B2_3 B3_3 T3_3 S_3 s_4
  refine step_eq T3_4 T4_4 (fun w => ?_) ?_
  · show ((x w) && (y w)) = ((y w) && (x w))
    cases x w <;> cases y w <;> cases z w <;> rfl
  clear T3_4
  clear T4_4
  refine ⟨_, rfl, ?_⟩
  refine step_inv B1_4 X fun q_T5 H5 s_5 T5_5 => ?_
  have B1_5 := B1_4.same s_5
  have B2_5 := B2_4.same s_5
  have B3_5 := B3_4.same s_5
  have S_5 := S_4.trans s_5
  clear B1_4 B2_4 B3_4 S_4 s_5
  refine step_inv T5_5 X fun q_T6 H6 s_6 T6_6 => ?_
  clear T5_5
  have B1_6 := B1_5.same s_6
  have B2_6 := B2_5.same s_6
  have B3_6 := B3_5.same s_6
  have S_6 := S_5.trans s_6
  clear B1_5 B2_5 B3_5 S_5 s_6
  refine ⟨_, rfl, ?_⟩
  refine step_eq T6_6 B1_6 (fun w => ?_) ?_
  · show (!((!(x w)))) = x w
    cases x w <;> cases y w <;> cases z w <;> rfl
  clear T6_6
  refine ⟨_, rfl, ?_⟩
  refine ⟨_, rfl, ?_⟩
  refine step_op B1_6 B2_6 X (by decide) fun q_T7 H7 s_7 T7_7 => ?_
  have B1_7 := B1_6.same s_7
  have B2_7 := B2_6.same s_7
  have B3_7 := B3_6.same s_7
  have S_7 := S_6.trans s_7
  clear B1_6 B2_6 B3_6 S_6 s_7
  refine step_inv T7_7 X fun q_T8 H8 s_8 T8_8 => ?_
  clear T7_7
  have B1_8 := B1_7.same s_8
  have B2_8 := B2_7.same s_8
  have B3_8 := B3_7.same s_8
  have S_8 := S_7.trans s_8
  clear B1_7 B2_7 B3_7 S_7 s_8
  refine ⟨_, rfl, ?_⟩
  refine step_inv B1_8 X fun q_T9 H9 s_9 T9_9 => ?_
  have B1_9 := B1_8.same s_9
  have B2_9 := B2_8.same s_9
  have B3_9 := B3_8.same s_9
  have T8_9 := T8_8.same s_9
  have S_9 := S_8.trans s_9
  clear B1_8 B2_8 B3_8 T8_8 S_8 s_9
  refine ⟨_, rfl, ?_⟩
  refine step_inv B2_9 X fun q_T10 H10 s_10 T10_10 => ?_
  have B1_10 := B1_9.same s_10
  have B2_10 := B2_9.same s_10
  have B3_10 := B3_9.same s_10
  have T8_10 := T8_9.same s_10
  have T9_10 := T9_9.same s_10
  have S_10 := S_9.trans s_10
  clear B1_9 B2_9 B3_9 T8_9 T9_9 S_9 s_10
  refine step_op T9_10 T10_10 X (by decide) fun q_T11 H11 s_11 T11_11 => ?_
  clear T9_10
  clear T10_10
  have B1_11 := B1_10.same s_11
  have B2_11 := B2_10.same s_11
  have B3_11 := B3_10.same s_11
  have T8_11 := T8_10.same s_11
  have S_11 := S_10.trans s_11
  clear B1_10 B2_10 B3_10 T8_10 S_10 s_11
  refine step_eq T8_11 T11_11 (fun w => ?_) ?_
  · show (!(((x w) || (y w)))) = (((!(x w))) && ((!(y w))))
    cases x w <;> cases y w <;> cases z w <;> rfl
  clear T8_11
  clear T11_11
  refine ⟨(by show 4 ≤ sizeLine; decide), fun l0 n0 => ?_⟩
  have s_12 := same_new n0 (.lst [V.bl true, V.bl true, V.bl true, V.bl true])
  have e0_12 : upd H11 l0 (.lst [V.bl true, V.bl true, V.bl true, V.bl true]) l0 = some (.lst [V.bl true, V.bl true, V.bl true, V.bl true]) := upd_same
  generalize upd H11 l0 (.lst [V.bl true, V.bl true, V.bl true, V.bl true]) = H12 at s_12 e0_12 ⊢
  have B1_12 := B1_11.same s_12
  have B2_12 := B2_11.same s_12
  have B3_12 := B3_11.same s_12
  have S_12 := S_11.trans s_12
  clear B1_11 B2_11 B3_11 S_11 s_12
  refine ⟨_, rfl, ?_⟩
  refine ⟨_, rfl, ?_⟩
  refine ⟨_, rfl, ?_⟩
  refine step_op B1_12 B2_12 X (by decide) fun q_T12 H13 s_13 T12_13 => ?_
  have B1_13 := B1_12.same s_13
  have B2_13 := B2_12.same s_13
  have B3_13 := B3_12.same s_13
  have e0_13 := s_13 _ _ e0_12
  have S_13 := S_12.trans s_13
  clear B1_12 B2_12 B3_12 e0_12 S_12 s_13
  refine ⟨_, rfl, ?_⟩
  refine step_op T12_13 B3_13 X (by decide) fun q_T13 H14 s_14 T13_14 => ?_
  clear T12_13
  have B1_14 := B1_13.same s_14
  have B2_14 := B2_13.same s_14
  have B3_14 := B3_13.same s_14
  have e0_14 := s_14 _ _ e0_13
  have S_14 := S_13.trans s_14
  clear B1_13 B2_13 B3_13 e0_13 S_13 s_14
  refine ⟨_, rfl, ?_⟩
  refine ⟨_, rfl, ?_⟩
  refine ⟨_, rfl, ?_⟩
  refine step_op B2_14 B3_14 X (by decide) fun q_T14 H15 s_15 T14_15 => ?_
  have B1_15 := B1_14.same s_15
  have B2_15 := B2_14.same s_15
  have B3_15 := B3_14.same s_15
  have T13_15 := T13_14.same s_15
  have e0_15 := s_15 _ _ e0_14
  have S_15 := S_14.trans s_15
  clear B1_14 B2_14 B3_14 T13_14 e0_14 S_14 s_15
  refine step_op B1_15 T14_15 X (by decide) fun q_T15 H16 s_16 T15_16 => ?_
  clear T14_15
  have B1_16 := B1_15.same s_16
  have B2_16 := B2_15.same s_16
  have B3_16 := B3_15.same s_16
  have T13_16 := T13_15.same s_16
  have e0_16 := s_16 _ _ e0_15
  have S_16 := S_15.trans s_16
  clear B1_15 B2_15 B3_15 T13_15 e0_15 S_15 s_16
  refine step_eq T13_16 T15_16 (fun w => ?_) ?_
  · show ((((x w) || (y w))) || (z w)) = ((x w) || (((y w) || (z w))))
    cases x w <;> cases y w <;> cases z w <;> rfl
  clear T13_16
  clear T15_16
  refine ⟨_, rfl, ?_⟩
  refine ⟨_, rfl, ?_⟩
  refine step_op B1_16 B2_16 X (by decide) fun q_T16 H17 s_17 T16_17 => ?_
  have B1_17 := B1_16.same s_17
  have B2_17 := B2_16.same s_17
  have B3_17 := B3_16.same s_17
  have e0_17 := s_17 _ _ e0_16
  have S_17 := S_16.trans s_17
  clear B1_16 B2_16 B3_16 e0_16 S_16 s_17
  refine ⟨_, rfl, ?_⟩
  refine step_op T16_17 B3_17 X (by decide) fun q_T17 H18 s_18 T17_18 => ?_
  clear T16_17
  have B1_18 := B1_17.same s_18
  have B2_18 := B2_17.same s_18
  have B3_18 := B3_17.same s_18
  have e0_18 := s_18 _ _ e0_17
  have S_18 := S_17.trans s_18
  clear B1_17 B2_17 B3_17 e0_17 S_17 s_18
  refine ⟨_, rfl, ?_⟩
  refine ⟨_, rfl, ?_⟩
  refine ⟨_, rfl, ?_⟩
  refine step_op B2_18 B3_18 X (by decide) fun q_T18 H19 s_19 T18_19 => ?_
  have B1_19 := B1_18.same s_19
  have B2_19 := B2_18.same s_19
  have B3_19 := B3_18.same s_19
  have T17_19 := T17_18.same s_19
  have e0_19 := s_19 _ _ e0_18
  have S_19 := S_18.trans s_19
  clear B1_18 B2_18 B3_18 T17_18 e0_18 S_18 s_19
  refine step_op B1_19 T18_19 X (by decide) fun q_T19 H20 s_20 T19_20 => ?_
  clear T18_19
  have B1_20 := B1_19.same s_20
  have B2_20 := B2_19.same s_20
  have B3_20 := B3_19.same s_20
  have T17_20 := T17_19.same s_20
  have e0_20 := s_20 _ _ e0_19
  have S_20 := S_19.trans s_20
  clear B1_19 B2_19 B3_19 T17_19 e0_19 S_19 s_20
  refine step_eq T17_20 T19_20 (fun w => ?_) ?_
  · show ((((x w) && (y w))) && (z w)) = ((x w) && (((y w) && (z w))))
    cases x w <;> cases y w <;> cases z w <;> rfl
  clear T17_20
  clear T19_20
  refine ⟨(by show 2 ≤ sizeLine; decide), fun l1 n1 => ?_⟩
  have s_21 := same_new n1 (.lst [V.bl true, V.bl true])
  have e1_21 : upd H20 l1 (.lst [V.bl true, V.bl true]) l1 = some (.lst [V.bl true, V.bl true]) := upd_same
  generalize upd H20 l1 (.lst [V.bl true, V.bl true]) = H21 at s_21 e1_21 ⊢
  have B1_21 := B1_20.same s_21
  have B2_21 := B2_20.same s_21
  have B3_21 := B3_20.same s_21
  have e0_21 := s_21 _ _ e0_20
  have S_21 := S_20.trans s_21
  clear B1_20 B2_20 B3_20 e0_20 S_20 s_21
  refine ⟨l0, l1, _, _, rfl, rfl, e0_21, e1_21, (by show 6 ≤ sizeLine; decide), fun r1 nr1 => ?_⟩
  have s_22 := same_new nr1 (.lst [V.bl true, V.bl true, V.bl true, V.bl true, V.bl true, V.bl true])
  have c1_22 : upd H21 r1 (.lst [V.bl true, V.bl true, V.bl true, V.bl true, V.bl true, V.bl true]) r1 = some (.lst [V.bl true, V.bl true, V.bl true, V.bl true, V.bl true, V.bl true]) := upd_same
  show tSeq _ _ _ _ (upd H21 r1 (.lst [V.bl true, V.bl true, V.bl true, V.bl true, V.bl true, V.bl true]))
  generalize upd H21 r1 (.lst [V.bl true, V.bl true, V.bl true, V.bl true, V.bl true, V.bl true]) = H22 at s_22 c1_22 ⊢
  have B1_22 := B1_21.same s_22
  have B2_22 := B2_21.same s_22
  have B3_22 := B3_21.same s_22
  have S_22 := S_21.trans s_22
  clear B1_21 B2_21 B3_21 S_21 s_22
  refine ⟨_, rfl, ?_⟩
  refine ⟨_, rfl, ?_⟩
  refine ⟨_, rfl, ?_⟩
  refine ⟨_, rfl, ?_⟩
  refine step_op B2_22 B3_22 X (by decide) fun q_T20 H23 s_23 T20_23 => ?_
  have B1_23 := B1_22.same s_23
  have B2_23 := B2_22.same s_23
  have B3_23 := B3_22.same s_23
  have c1_23 := s_23 _ _ c1_22
  have S_23 := S_22.trans s_23
  clear B1_22 B2_22 B3_22 c1_22 S_22 s_23
  refine step_op B1_23 T20_23 X (by decide) fun q_T21 H24 s_24 T21_24 => ?_
  clear T20_23
  have B1_24 := B1_23.same s_24
  have B2_24 := B2_23.same s_24
  have B3_24 := B3_23.same s_24
  have c1_24 := s_24 _ _ c1_23
  have S_24 := S_23.trans s_24
  clear B1_23 B2_23 B3_23 c1_23 S_23 s_24
  refine ⟨_, rfl, ?_⟩
  refine ⟨_, rfl, ?_⟩
  refine step_op B1_24 B2_24 X (by decide) fun q_T22 H25 s_25 T22_25 => ?_
  have B1_25 := B1_24.same s_25
  have B2_25 := B2_24.same s_25
  have B3_25 := B3_24.same s_25
  have T21_25 := T21_24.same s_25
  have c1_25 := s_25 _ _ c1_24
  have S_25 := S_24.trans s_25
  clear B1_24 B2_24 B3_24 T21_24 c1_24 S_24 s_25
  refine ⟨_, rfl, ?_⟩
  refine ⟨_, rfl, ?_⟩
  refine step_op B1_25 B3_25 X (by decide) fun q_T23 H26 s_26 T23_26 => ?_
  have B1_26 := B1_25.same s_26
  have B2_26 := B2_25.same s_26
  have B3_26 := B3_25.same s_26
  have T21_26 := T21_25.same s_26
  have T22_26 := T22_25.same s_26
  have c1_26 := s_26 _ _ c1_25
  have S_26 := S_25.trans s_26
  clear B1_25 B2_25 B3_25 T21_25 T22_25 c1_25 S_25 s_26
  refine step_op T22_26 T23_26 X (by decide) fun q_T24 H27 s_27 T24_27 => ?_
  clear T22_26
  clear T23_26
  have B1_27 := B1_26.same s_27
  have B2_27 := B2_26.same s_27
  have B3_27 := B3_26.same s_27
  have T21_27 := T21_26.same s_27
  have c1_27 := s_27 _ _ c1_26
  have S_27 := S_26.trans s_27
  clear B1_26 B2_26 B3_26 T21_26 c1_26 S_26 s_27
  refine step_eq T21_27 T24_27 (fun w => ?_) ?_
  · show ((x w) && (((y w) || (z w)))) = ((((x w) && (y w))) || (((x w) && (z w))))
    cases x w <;> cases y w <;> cases z w <;> rfl
  clear T21_27
  clear T24_27
  refine ⟨_, rfl, ?_⟩
  refine ⟨_, rfl, ?_⟩
  refine step_op B1_27 B2_27 X (by decide) fun q_T25 H28 s_28 T25_28 => ?_
  have B1_28 := B1_27.same s_28
  have B2_28 := B2_27.same s_28
  have B3_28 := B3_27.same s_28
  have c1_28 := s_28 _ _ c1_27
  have S_28 := S_27.trans s_28
  clear B1_27 B2_27 B3_27 c1_27 S_27 s_28
  refine ⟨_, rfl, ?_⟩
  refine ⟨_, rfl, ?_⟩
  refine step_inv B2_28 X fun q_T26 H29 s_29 T26_29 => ?_
  have B1_29 := B1_28.same s_29
  have B2_29 := B2_28.same s_29
  have B3_29 := B3_28.same s_29
  have T25_29 := T25_28.same s_29
  have c1_29 := s_29 _ _ c1_28
  have S_29 := S_28.trans s_29
  clear B1_28 B2_28 B3_28 T25_28 c1_28 S_28 s_29
  refine step_op B1_29 T26_29 X (by decide) fun q_T27 H30 s_30 T27_30 => ?_
  clear T26_29
  have B1_30 := B1_29.same s_30
  have B2_30 := B2_29.same s_30
  have B3_30 := B3_29.same s_30
  have T25_30 := T25_29.same s_30
  have c1_30 := s_30 _ _ c1_29
  have S_30 := S_29.trans s_30
  clear B1_29 B2_29 B3_29 T25_29 c1_29 S_29 s_30
  refine step_eq T25_30 T27_30 (fun w => ?_) ?_
  · show ((x w) && !(y w)) = ((x w) && ((!(y w))))
    cases x w <;> cases y w <;> cases z w <;> rfl
  clear T25_30
  clear T27_30
  refine ⟨_, rfl, ?_⟩
  refine ⟨_, rfl, ?_⟩
  refine step_op B1_30 B1_30 X (by decide) fun q_T28 H31 s_31 T28_31 => ?_
  have B1_31 := B1_30.same s_31
  have B2_31 := B2_30.same s_31
  have B3_31 := B3_30.same s_31
  have c1_31 := s_31 _ _ c1_30
  have S_31 := S_30.trans s_31
  clear B1_30 B2_30 B3_30 c1_30 S_30 s_31
  refine ⟨_, rfl, ?_⟩
  refine step_eq T28_31 B1_31 (fun w => ?_) ?_
  · show ((x w) || (x w)) = x w
    cases x w <;> cases y w <;> cases z w <;> rfl
  clear T28_31
  refine ⟨(by show 3 ≤ sizeLine; decide), fun l2 n2 => ?_⟩
  have s_32 := same_new n2 (.lst [V.bl true, V.bl true, V.bl true])
  have e2_32 : upd H31 l2 (.lst [V.bl true, V.bl true, V.bl true]) l2 = some (.lst [V.bl true, V.bl true, V.bl true]) := upd_same
  generalize upd H31 l2 (.lst [V.bl true, V.bl true, V.bl true]) = H32 at s_32 e2_32 ⊢
  have B1_32 := B1_31.same s_32
  have B2_32 := B2_31.same s_32
  have B3_32 := B3_31.same s_32
  have c1_32 := s_32 _ _ c1_31
  have S_32 := S_31.trans s_32
  clear B1_31 B2_31 B3_31 c1_31 S_31 s_32
  refine ⟨r1, l2, _, _, rfl, rfl, c1_32, e2_32, (by show 9 ≤ sizeLine; decide), fun r2 nr2 => ?_⟩
  have s_33 := same_new nr2 (.lst [V.bl true, V.bl true, V.bl true, V.bl true, V.bl true, V.bl true, V.bl true, V.bl true, V.bl true])
  have c2_33 : upd H32 r2 (.lst [V.bl true, V.bl true, V.bl true, V.bl true, V.bl true, V.bl true, V.bl true, V.bl true, V.bl true]) r2 = some (.lst [V.bl true, V.bl true, V.bl true, V.bl true, V.bl true, V.bl true, V.bl true, V.bl true, V.bl true]) := upd_same
  show tSeq _ _ _ _ (upd H32 r2 (.lst [V.bl true, V.bl true, V.bl true, V.bl true, V.bl true, V.bl true, V.bl true, V.bl true, V.bl true]))
  generalize upd H32 r2 (.lst [V.bl true, V.bl true, V.bl true, V.bl true, V.bl true, V.bl true, V.bl true, V.bl true, V.bl true]) = H33 at s_33 c2_33 ⊢
  have B1_33 := B1_32.same s_33
  have B2_33 := B2_32.same s_33
  have B3_33 := B3_32.same s_33
  have S_33 := S_32.trans s_33
  clear B1_32 B2_32 B3_32 S_32 s_33
  refine ⟨_, rfl, ?_⟩
  refine ⟨_, rfl, ?_⟩
  refine ⟨_, rfl, ?_⟩
  refine step_op B1_33 B2_33 X (by decide) fun q_T29 H34 s_34 T29_34 => ?_
  have B1_34 := B1_33.same s_34
  have B2_34 := B2_33.same s_34
  have B3_34 := B3_33.same s_34
  have c2_34 := s_34 _ _ c2_33
  have S_34 := S_33.trans s_34
  clear B1_33 B2_33 B3_33 c2_33 S_33 s_34
  refine ⟨_, rfl, ?_⟩
  refine step_le T29_34 B1_34 (by decide) (fun w => ?_) fun H35 s_35 => ?_
  · show ((x w) && (y w)) = true → x w = true
    cases x w <;> cases y w <;> cases z w <;> decide
  clear T29_34
  have B1_35 := B1_34.same s_35
  have B2_35 := B2_34.same s_35
  have B3_35 := B3_34.same s_35
  have c2_35 := s_35 _ _ c2_34
  have S_35 := S_34.trans s_35
  clear B1_34 B2_34 B3_34 c2_34 S_34 s_35
  refine ⟨_, rfl, ?_⟩
  refine ⟨_, rfl, ?_⟩
  refine ⟨_, rfl, ?_⟩
  refine step_op B1_35 B2_35 X (by decide) fun q_T30 H36 s_36 T30_36 => ?_
  have B1_36 := B1_35.same s_36
  have B2_36 := B2_35.same s_36
  have B3_36 := B3_35.same s_36
  have c2_36 := s_36 _ _ c2_35
  have S_36 := S_35.trans s_36
  clear B1_35 B2_35 B3_35 c2_35 S_35 s_36
  refine step_le B1_36 T30_36 (by decide) (fun w => ?_) fun H37 s_37 => ?_
  · show x w = true → ((x w) || (y w)) = true
    cases x w <;> cases y w <;> cases z w <;> decide
  clear T30_36
  have B1_37 := B1_36.same s_37
  have B2_37 := B2_36.same s_37
  have B3_37 := B3_36.same s_37
  have c2_37 := s_37 _ _ c2_36
  have S_37 := S_36.trans s_37
  clear B1_36 B2_36 B3_36 c2_36 S_36 s_37
  refine ⟨_, rfl, ?_⟩
  refine ⟨_, rfl, ?_⟩
  refine step_op B1_37 B2_37 X (by decide) fun q_T31 H38 s_38 T31_38 => ?_
  have B1_38 := B1_37.same s_38
  have B2_38 := B2_37.same s_38
  have B3_38 := B3_37.same s_38
  have c2_38 := s_38 _ _ c2_37
  have S_38 := S_37.trans s_38
  clear B1_37 B2_37 B3_37 c2_37 S_37 s_38
  refine ⟨_, rfl, ?_⟩
  refine step_le T31_38 B1_38 (by decide) (fun w => ?_) fun H39 s_39 => ?_
  · show ((x w) && !(y w)) = true → x w = true
    cases x w <;> cases y w <;> cases z w <;> decide
  clear T31_38
  have B1_39 := B1_38.same s_39
  have B2_39 := B2_38.same s_39
  have B3_39 := B3_38.same s_39
  have c2_39 := s_39 _ _ c2_38
  have S_39 := S_38.trans s_39
  clear B1_38 B2_38 B3_38 c2_38 S_38 s_39
  refine ⟨_, rfl, ?_⟩
  refine ⟨_, rfl, ?_⟩
  refine step_op B1_39 B2_39 X (by decide) fun q_T32 H40 s_40 T32_40 => ?_
  have B1_40 := B1_39.same s_40
  have B2_40 := B2_39.same s_40
  have B3_40 := B3_39.same s_40
  have c2_40 := s_40 _ _ c2_39
  have S_40 := S_39.trans s_40
  clear B1_39 B2_39 B3_39 c2_39 S_39 s_40
  refine ⟨_, rfl, ?_⟩
  refine step_op T32_40 B2_40 X (by decide) fun q_T33 H41 s_41 T33_41 => ?_
  clear T32_40
  have B1_41 := B1_40.same s_41
  have B2_41 := B2_40.same s_41
  have B3_41 := B3_40.same s_41
  have c2_41 := s_41 _ _ c2_40
  have S_41 := S_40.trans s_41
  clear B1_40 B2_40 B3_40 c2_40 S_40 s_41
  refine ⟨_, rfl, ?_⟩
  refine step_le T33_41 B3_41 (by decide) (fun w => ?_) fun H42 s_42 => ?_
  · show ((((x w) && !(y w))) && (y w)) = true → z w = true
    cases x w <;> cases y w <;> cases z w <;> decide
  clear T33_41
  have B1_42 := B1_41.same s_42
  have B2_42 := B2_41.same s_42
  have B3_42 := B3_41.same s_42
  have c2_42 := s_42 _ _ c2_41
  have S_42 := S_41.trans s_42
  clear B1_41 B2_41 B3_41 c2_41 S_41 s_42
  refine ⟨(by show 4 ≤ sizeLine; decide), fun l3 n3 => ?_⟩
  have s_43 := same_new n3 (.lst [V.bl true, V.bl true, V.bl true, V.bl true])
  have e3_43 : upd H42 l3 (.lst [V.bl true, V.bl true, V.bl true, V.bl true]) l3 = some (.lst [V.bl true, V.bl true, V.bl true, V.bl true]) := upd_same
  generalize upd H42 l3 (.lst [V.bl true, V.bl true, V.bl true, V.bl true]) = H43 at s_43 e3_43 ⊢
  have B1_43 := B1_42.same s_43
  have B2_43 := B2_42.same s_43
  have B3_43 := B3_42.same s_43
  have c2_43 := s_43 _ _ c2_42
  have S_43 := S_42.trans s_43
  clear B1_42 B2_42 B3_42 c2_42 S_42 s_43
  refine ⟨r2, l3, _, _, rfl, rfl, c2_43, e3_43, (by show 13 ≤ sizeLine; decide), fun r3 nr3 => ?_⟩
  have s_44 := same_new nr3 (.lst [V.bl true, V.bl true, V.bl true, V.bl true, V.bl true, V.bl true, V.bl true, V.bl true, V.bl true, V.bl true, V.bl true, V.bl true, V.bl true])
  have c3_44 : upd H43 r3 (.lst [V.bl true, V.bl true, V.bl true, V.bl true, V.bl true, V.bl true, V.bl true, V.bl true, V.bl true, V.bl true, V.bl true, V.bl true, V.bl true]) r3 = some (.lst [V.bl true, V.bl true, V.bl true, V.bl true, V.bl true, V.bl true, V.bl true, V.bl true, V.bl true, V.bl true, V.bl true, V.bl true, V.bl true]) := upd_same
  have B1_44 := B1_43.same s_44
  have B2_44 := B2_43.same s_44
  have B3_44 := B3_43.same s_44
  have S_44 := S_43.trans s_44
  clear B1_43 B2_43 B3_43 S_43 s_44
  refine ⟨_, rfl, (by show 1 ≤ sizeLine; decide), fun lb nb => ?_⟩
  have sb := same_new nb (.lst [V.bl true])
  refine ⟨lb, 13, _, rfl, rfl, upd_same, by decide, by decide, (by decide), fun lc nc => ?_⟩
  have sc := sb.trans (same_new nc (.lst (List.replicate ((13 : Int)).toNat [V.bl true]).flatten))
  refine ⟨_, _, dp_bls (xs := List.replicate 13 true) (SqL.of (sc _ _ c3_44)), dp_bls (xs := List.replicate 13 true) (SqL.of upd_same), bls_shaped _, bls_shaped _, ?_⟩
  rw [bls_eqv, decide_eq_true rfl]
  exact q _ (S_44.trans sc)
end
end Vf

set_option Elab.async false
set_option linter.all false
set_option maxRecDepth 100000
set_option maxHeartbeats 4000000
namespace L2
open PySem PySem.Spec PyProof.Rows
/-! ### several clauses, each with a name: except C as n -/
abbrev NmTs := Value × Nat × (Addr → Value → Option Addr → TS)
def wNm (K : PySem.W.Frag) (Wout : WX) (D : Ends) : List NmTs → WX
  | [] => Wout
  | (c, i, ts) :: r => fun cls d σ H => ∃ b, PySem.W.exmOne K cls c = some b ∧
    (b = true → ∀ a, H a = none → ts a cls d { nx := fun σ' H' => D.nx (σ'.set i none) H', rt := D.rt, bk := fun σ' H' => D.bk (σ'.set i none) H', ct := fun σ' H' => D.ct (σ'.set i none) H' } (σ.set i (some (.ref a))) H) ∧ (b = false → wNm K Wout D r cls d σ H)
inductive HdsNm (X : Cx) : List ExceptHandler → List NmTs → Prop
  | nil : HdsNm X [] []
  | cons {x n : Str} {c : Value} {i : Nat} {ts : Addr → Value → Option Addr → TS} {b₀ : Stmt} {suite : List Stmt} {np pos' : Pos} {hds : List ExceptHandler} {l : List NmTs} (hi : X.N[i]? = some n) (hln : X.env.kindOf n = some .local) (hc : Names X x c)
      (hsu : ∀ (a : Addr) (oe : Obj) (cls : Value) (d : Option Addr) (pn : List (Addr × Obj)), Zc cls d oe → (∃ vs, oe.data = .fields vs) → PSs (X.suite a ((a, oe) :: pn)) (b₀ :: suite) (ts a cls d)) (r : HdsNm X hds l) :
      HdsNm X (.ExceptHandler (some (.Name x np)) (some n) (b₀ :: suite) pos' :: hds) ((c, i, ts) :: l)
section
variable {X : Cx} {body : List Stmt} {h₀ : ExceptHandler} {hds : List ExceptHandler} {l : List NmTs} {pos : Pos} {tb : WX → TS} {Wout : WX}
theorem ps_try_nm (hs : X.stack = X.env :: X.outer) (hf : X.env.frame = some X.env.locals) (hN : X.N.Nodup) (tk : Takes X Wout)
    (hb : ∀ (W : WX) (pn : List (Addr × Obj)) (xe : Value → Shared → Prop), Takes (X.tr pn xe) W → PassesOwn (model X.prog X.w) X.A X.env xe → PSs (X.tr pn xe) body (tb W))
    (hh : HdsNm X (h₀ :: hds) l) : PS X (.Try body (h₀ :: hds) [] [] pos) (fun D σ H => tb (wNm X.K Wout D l) D σ H) := by
  refine ⟨fun pins s σ H D I h => ?_⟩
  have ok := I.ok
  have hfr : X.A.frames = some (X.env :: X.outer) := by rw [ok.frames, hs]
  refine wpAny_Try_except ?_
  refine wpAny_mono ((hb (wNm X.K Wout D l) (X.pn ++ pins) (fun e s₁ => wpAny (model X.prog X.w) X.A (noteFrame e X.env) (fun _ s₂ => wpAny (model X.prog X.w) X.A (setFlight e none) (fun _ s₃ =>
    wpAny (model X.prog X.w) X.A (handleBy e X.env (h₀ :: hds)) (SP X pins D) X.xe s₃) X.xe s₂) X.xe s₁) (fun u s' xx => ?_) PassesOwn.looking).run [] s σ H D (I.toTry _) h) (fun f s1 hsp => ?_) (fun e s1 he => he)
  · -- the catch
    obtain ⟨a, B, sI, pins', σ', H', cls, d, rfl, J', nb, up, sky, na, os, ag, w⟩ := xx
    have J : Inv X pins σ' H' sI := J'.ofTry ok
    have sky' : Sky B (X.env :: X.outer) a (Zc cls d) X.env.locals s'.heap := by rw [← hs]; exact sky
    show wpAny (model X.prog X.w) X.A (noteFrame (.ref a) X.env) _ _ _
    refine Sky.land Zc.steady hfr hf sky' fun h3 fl3 up3 => ?_
    have J3 : Inv X pins σ' H' { s' with heap := h3 } := J.landed nb fl3.1 (up.trans up3) os ag
    obtain ⟨oe3, vs3, he3, hz3, hd3⟩ := fl3.there
    have notFr : ∀ {h : Heap} {o : Obj} {vs : Array Value}, h.FunFrames B (X.env :: X.outer) → h.get? a = some o → o.data = .fields vs → a ∉ frs (X.env :: X.outer) := fun {h o vs} ff e dd hm => by
      obtain ⟨_, o', e', hnf⟩ := ff.mem hm
      rw [e] at e'; cases e'
      exact hnf _ dd
    have nfr := notFr fl3.2.2.1 he3 hd3
    have nL : a ≠ X.env.locals := fun z => nfr (List.mem_filterMap.mpr ⟨X.env, List.mem_cons_self, by rw [hf, z]⟩)
    have nF : a ∉ X.fs := fun hm => by
      obtain ⟨e, he, q⟩ := List.mem_filterMap.mp hm
      exact nfr (List.mem_filterMap.mpr ⟨e, List.mem_cons_of_mem _ he, q⟩)
    have S3 := J3.suite he3 hd3 na nL nF
    have go : ∀ {hds' : List ExceptHandler} {l' : List NmTs}, HdsNm X hds' l' → wNm X.K Wout D l' cls d σ' H' →
        wpAny (model X.prog X.w) X.A (handleBy (.ref a) X.env hds') (SP X pins D) X.xe { s' with heap := h3 } := by
      intro hds' l' hk
      induction hk with
      | nil =>
        intro w
        refine wpAny_handleBy_nil ?_
        obtain ⟨k1, k2, k3, oe, vs, T, oT, ts', he, hz, hd, h1, hr⟩ := id fl3
        unfold PySem.passOn
        refine wpAny_bind (wpAny_field he hd h1 ?_)
        rw [if_neg (show ¬ ((Value.ref T == Value.none) = true) from by simp)]
        have fin : wpAny (model X.prog X.w) X.A (setFlight (.ref a) X.env.frame) (fun _ s4 => wpAny (model X.prog X.w) X.A (throw (.ref a) : Sem Flow) (SP X pins D) X.xe s4) X.xe { s' with heap := h3 } := by
          rw [hf]
          refine HandSPX.setFlight_upZ fl3 fun h4 hh4 up4 => wpAny_throw (tk _ _ ?_)
          exact ⟨a, B, sI, pins, σ', H', cls, d, rfl, J, nb, (up.trans up3).trans up4, .inr (.inr (by rw [hs]; exact hh4)), na, os, ag, w⟩
        first
          | exact wpAny_bind (wpAny_pure (wpAny_bind fin))
          | exact wpAny_bind fin
      | @cons x n c i ts b₀ suite np pos' hds2 l2 hi hln hc hsu r ih =>
        intro w
        obtain ⟨b, hb1, hyes, hno⟩ := w
        have hloc : Loc X.env.scope n := .inl hln
        refine wpAny_handleBy_cons (codeAny_handlers_test ?_) (by intro q; cases q)
        have LT : PySem.W.Looks (model X.prog X.w) h3 (typeOf (.ref a)) cls := fun A Q E s k q => wpAny_typeOf_ref (k _ _ he3) (by rw [hz3.1]; exact q)
        have LM := PySem.W.exm_one (M := model X.prog X.w) (J3.kIn) LT hb1
        have test : ∀ {Q : Value → Shared → Prop} {E : Value → Shared → Prop}, Q c { s' with heap := h3 } → wpAny (model X.prog X.w) (X.A.mark (some (.ref a))) (eval (.Name x np) X.env) Q E { s' with heap := h3 } := fun {Q E} q => by
          obtain ⟨hg, hdbg, hm | ⟨hm, hv, hnn⟩⟩ := hc
          · exact ld_glob (X := X.suite a ((a, oe3) :: (X.pn ++ pins))) S3 hg hm q hdbg
          · exact ld_blt (X := X.suite a ((a, oe3) :: (X.pn ++ pins))) S3 hg hm hv q hnn hdbg
        refine test (LM.here ?_)
        cases b with
        | true =>
          refine codeAny_handlers_suite_as ?_
          refine HandSPX.lands_againZ fl3 fun h4 fl4 up4 => ?_
          have J4 : Inv X pins σ' H' { s' with heap := h4 } := J.landed nb fl4.1 ((up.trans up3).trans up4) os ag
          obtain ⟨oe4, vs4, he4, hz4, hd4⟩ := fl4.there
          have S4 := J4.suite he4 hd4 na nL nF
          refine store_ok (X := X.suite a ((a, oe4) :: (X.pn ++ pins))) (v := .ref a) S4 hN hi hloc rfl (fun s5 S5 => ?_) (.inr hln)
          refine wpAny_mono ((hsu a oe4 cls d (X.pn ++ pins) hz4 ⟨_, hd4⟩).run [] s5 _ H' _ S5 (hyes rfl a na)) (fun f s6 hsp => ?_) (fun _ _ z => False.elim z)
          have end_ : ∀ {σ6 : St} {H6 : Hp} {Q : Shared → Prop}, Inv (X.suite a ((a, oe4) :: (X.pn ++ pins))) [] σ6 H6 s6 → (∀ s7, Inv X pins (σ6.set i none) H6 s7 → Q s7) →
              wpAny (model X.prog X.w) X.A (do bindName X.env n .none; unbindBehindTheSuite X.env n pos') (fun _ s7 => Q s7) X.xe s6 := fun {σ6 H6 Q} S6 hq => gone_ok (S6.unsuite ok) hN hi hln hq
          cases f with
          | next =>
            obtain ⟨σ6, H6, S6, q6⟩ := hsp
            exact end_ S6 fun s7 J7 => ⟨_, _, J7, q6⟩
          | brk =>
            obtain ⟨σ6, H6, S6, q6⟩ := hsp
            exact end_ S6 fun s7 J7 => ⟨_, _, J7, q6⟩
          | cont =>
            obtain ⟨σ6, H6, S6, q6⟩ := hsp
            exact end_ S6 fun s7 J7 => ⟨_, _, J7, q6⟩
          | ret u =>
            obtain ⟨v6, σ6, H6, S6, r6, q6⟩ := hsp
            exact end_ S6 fun s7 J7 => ⟨_, _, _, J7, r6, q6⟩
        | false =>
          show wpAny _ X.A (handleBy (.ref a) X.env hds2) _ _ _
          exact ih (hno rfl)
    exact go hh w
  · cases f with
    | next =>
      obtain ⟨σ', H', J', q⟩ := hsp
      exact wpAny_execs_nil ⟨σ', H', J'.ofTry ok, q⟩
    | brk =>
      obtain ⟨σ', H', J', q⟩ := hsp
      exact ⟨σ', H', J'.ofTry ok, q⟩
    | cont =>
      obtain ⟨σ', H', J', q⟩ := hsp
      exact ⟨σ', H', J'.ofTry ok, q⟩
    | ret u =>
      obtain ⟨v, σ', H', J', r, q⟩ := hsp
      exact ⟨v, σ', H', J'.ofTry ok, r, q⟩
end
/-! ### C(..) and o[i] within a try: what is raised is wished for at the slots as they stand -/
section
variable {X : Cx} {CX : CXT} {k : Nat} {f C : Addr} {fd : FuncData} {ps : List Str} {sp : Sp} {E : St → XK} {x : Str} {p pos : Pos} {e : Expr} {es : List Expr} {t : TA} {dvs : List V} {ds : List Value}
def tMakeAt (C : Addr) (sp : Sp) (dvs : List V) (E : St → XK) (t : TA) : TE := fun σ H Q => tMake C sp dvs (E σ) t σ H Q
theorem pe_makeAt (M : Mk X.K C f) (F : FnOk X.prog X.w X.K X.mg X.base CX k f fd ps sp) (hr : Room (k + 1) X.A) (hg : Gl X x) (hm : X.mg x = some (.ref C)) (hb : Binds X.K fd ps ds) (hd : Vals dvs ds) (hx : ∀ σ, PassesAt CX X σ (E σ))
    (ha : PA X (e :: es) t) (hdb : (x == ("__debug__" : Str)) = false := by decide) (he : starEach (e :: es) X.env = (false, eval e X.env) :: starEach es X.env := by rfl) (hpl : (backTo pos (starEach es X.env)).any (·.1) = false := by rfl) :
    PE X (.Call (.Name x p) (e :: es) [] pos) (tMakeAt C sp dvs E t) := by
  refine ⟨fun pins s σ H Q I h => ?_⟩
  refine wpAny_Call_Name_kw (ld_glob I hg hm ?_ hdb)
  refine PySem.W.callWith_K (h₀ := X.base) I.ok.mod.kin M.kp (thn (ha.run pos pins s σ H _ I h) fun us s1 ⟨vs, H1, I1, r, q⟩ => ⟨I1.kIn, ?_⟩) he hpl
  have hq := q (s1.heap.objs.size + 1) s1.heap.objs.size (I1.hok.fresh (Nat.le_succ _)) (I1.hok.fresh (Nat.le_refl _)) (Nat.ne_of_lt (Nat.lt_succ_self _))
  have I2 := Inv.made (C := C) I1
  have r2 : Vals (V.ref (s1.heap.objs.size + 1) :: (vs ++ dvs)) (Value.ref (s1.heap.objs.size + 1) :: (us ++ ds)) := .cons rfl (r.append hd)
  have hl : (Value.ref (s1.heap.objs.size + 1) :: us ++ ds).length = ps.length := by
    have e := r2.length
    rw [F.len _ _ _ _ hq] at e
    exact e.symm
  refine wpAny_call (make_map (f := f) I1.kIn M.makes M.init (beq_iff_eq.mp M.fn) (codeAny_mono (F.run _ X.stack _ _ ⟨Value.ref (s1.heap.objs.size + 1) :: us, []⟩ (Value.ref (s1.heap.objs.size + 1) :: (us ++ ds)) _ _ (E σ) (hr.make C us [])
    (I2.env0.make C us []) (hb _ (Value.ref (s1.heap.objs.size + 1) :: us) I2.kIn hl) r2 hq) fun r s' hq' => ?_))
  cases r with
  | error e => exact hx σ pins _ _ e s' I2 hq'
  | ok fl =>
    cases fl with
    | ret u =>
      obtain ⟨v, H', I3, rv, ev, q3⟩ := I2.after hq'
      subst ev
      exact ⟨rv, ⟨V.ref (s1.heap.objs.size + 1), H', I3, rfl, q3⟩⟩
    | next => exact False.elim hq'
    | brk => exact False.elim hq'
    | cont => exact False.elim hq'
theorem run_in1S {pins : List (Addr × Obj)} {σ : St} {H : Hp} {s : Shared} {Q : VK} {us : List Value} {vs : List V} (F : FnOk X.prog X.w X.K X.mg X.base CX k f fd ps sp) (hr : Room (k + 1) X.A) (hb : Binds X.K fd ps ds) (hd : Vals dvs ds) (hx : PassesAt CX X σ (E σ))
    (I : Inv X pins σ H s) (r : Vals vs us) (h : sp (vs ++ dvs) H Q (E σ)) : wpAny (model X.prog X.w) X.A.in1 (call (.ref f) us) (EP X pins σ Q) X.xe s := by
  have r2 : Vals (vs ++ dvs) (us ++ ds) := r.append hd
  have hl : (us ++ ds).length = ps.length := by rw [← r2.length]; exact F.len _ _ _ _ h
  refine wpAny_call (codeAny_mono (F.run X.A.in1 X.stack s H ⟨us, []⟩ (us ++ ds) (vs ++ dvs) Q (E σ) hr.in1 I.env0.in1 (hb s us I.kIn hl) r2 h) fun r s' hq => ?_)
  cases r with
  | error e => exact hx pins H s e s' I hq
  | ok fl =>
    cases fl with
    | ret u => exact I.after hq
    | next => exact False.elim hq
    | brk => exact False.elim hq
    | cont => exact False.elim hq
def tIxAt (C : Addr) (sp : Sp) (dvs : List V) (E : St → XK) (ta tb : TE) : TE := fun σ H Q => tOp (rIxO C sp dvs (E σ)) ta tb σ H Q
theorem pe_ixOAt {a b : Expr} {ta tb : TE} (hm : Meth X.K C "__getitem__" f) (hf : PySem.W.fnIn X.K f = true) (F : FnOk X.prog X.w X.K X.mg X.base CX k f fd ps sp) (hr : Room (k + 1) X.A) (hb : Binds X.K fd ps ds) (hd : Vals dvs ds) (hx : ∀ σ, PassesAt CX X σ (E σ))
    (ha : PE X a ta) (hi : PE X b tb) (hs : ∀ v u, subscripted b true v u = runValue (.builtin "lifetime.subscript" ⟨[v, u], []⟩)) : PE X (.Subscript a b pos) (tIxAt C sp dvs E ta tb) := by
  refine ⟨fun pins s σ H Q I h => ?_⟩
  refine Subscript_ (binT ha hi I h fun v u s2 x y H2 I2 rx ry q => ?_)
  obtain ⟨p, dx, fs, rfl, ea, q⟩ := q
  obtain rfl : v = Value.ref p := rx
  obtain ⟨mA, O, _, _, _, _⟩ := ins_get I2.hok ea
  obtain ⟨od, J, _⟩ := O.look
  have go := run_in1S (us := [.ref p, u]) (vs := [.ref p, y]) F hr hb hd (hx σ) I2 (.cons rfl (.cons ry .nil)) q
  unfold PySem.W.fnIn at hf
  split at hf
  · rename_i e
    unfold subscriptTail getitemInPython
    refine wpAny_bind (wpAny_bind (wpAny_bind (J.type.here ((PySem.W.looks_findIn I2.kIn hm.at_).here ?_))))
    dsimp only
    refine wpAny_bind (wpAny_load (I2.kIn _ _ e) (wpAny_pure ?_))
    dsimp only
    rw [hs]
    refine wpAny_bind (wpAny_runValue (codeAny_builtin PySem.W.entry_sub ?_))
    unfold Builtin.«lifetime.subscript»
    refine wpAny_bind (PySem.W.special_fn I2.kIn J hm.at_ (beq_iff_eq.mp hm.fn) (wpAny_mono go (fun v s' z => ?_) fun _ _ z => z))
    refine wpAny_pure ?_
    show wpAny (model X.prog X.w) X.A (letTemporaryGo a (.ref p) v >>= fun _ => pure v) _ X.xe s'
    exact wpAny_bind (wpAny_letTemporaryGo (wpAny_pure z))
  · cases hf
end
end L2
namespace L2
namespace Vx
open PySem PySem.Spec PyProof.Rows _root_.Vx
/-! ### isinstance(e, c), e the error that the suite holds, with its attributes -/
section
variable {X : Cx} {a : Addr} {oe : Obj} {cls : Value} {d : Option Addr} {pn : List (Addr × Obj)}
def rIsPd (K : PySem.W.Frag) (a : Addr) (cls : Value) (d : Option Addr) : List V → Hp → VK → Prop := fun xs H Q => ∃ (D dd : Addr) (fs : List (Str × V)) (c : V) (cv : Value) (b : Bool), xs = [.ref a, c] ∧ cls = .ref D ∧ OexE K D ∧ d = some dd ∧ H dd = some (.xd fs) ∧ ClsV c cv ∧ PySem.W.kitOne K (.ref D) cv = some b ∧ Q (.bl b) H
theorem call_isPd (hz : Zc cls d oe) (hf : ∃ vs, oe.data = .fields vs) : CallR (X.suite a ((a, oe) :: pn)) (.builtin "isinstance") (rIsPd X.K a cls d) := by
  intro pins s σ H xs us Q I r h
  obtain ⟨D, dd, fs, c, cv, b, rfl, ec, T, ed, ea, k, e, q⟩ := h
  subst ec
  subst ed
  obtain ⟨u1, u2, rfl, r1, r2⟩ := vals2 r
  have e2 := k.eq r2
  subst e2
  cases (show u1 = Value.ref a from r1)
  have hcl : (PySem.W.clsIn X.K D).isSome = true := by
    obtain ⟨cd, hc, _⟩ := PySem.W.any_some T.hdC
    rw [hc] <;> rfl
  obtain ⟨hget, _⟩ := I.pin (a, oe) (List.mem_append_left _ List.mem_cons_self)
  obtain ⟨vs, hv⟩ := hf
  have hx : ObjOk X.prog X.w H s.heap dd (.xd fs) := I.hok dd _ ea
  obtain ⟨mA, hns, hr⟩ := hx
  obtain ⟨od, ho, hl⟩ := lookIn_ns hns
  have J : PySem.W.InstAt s.heap a oe D (some od) := ⟨hget, hz.1, by unfold PySem.W.notCls; rw [hv] <;> rfl, by rw [hz.2]; exact ho⟩
  exact PySem.W.kia_one (PySem.W.kitx_exc hcl T.ga T.gg T.exC T.ca T.cn T.ct T.cm) I.kIn J e (fun z => nomatch z) fun tk => ⟨.bl b, H, I.tok tk, rfl, q⟩
theorem OexE.xf {K : PySem.W.Frag} {C : Addr} (T : OexE K C) : XfC K C := ⟨T.ga, T.gg, T.exC, T.hdC⟩
end
end Vx
end L2

set_option Elab.async false
set_option linter.all false
set_option maxRecDepth 100000
set_option maxHeartbeats 4000000
namespace L2
namespace Vx
open PySem PySem.Spec PyProof.Rows _root_.Vx
section
variable {X : Cx} {a : Addr} {oe : Obj} {cls : Value} {d : Option Addr} {pn : List (Addr × Obj)}
/-- isinstance(e, c), e the error that the suite holds, without attributes -/
def rIsPn (K : PySem.W.Frag) (a : Addr) (cls : Value) (d : Option Addr) : List V → Hp → VK → Prop := fun xs H Q => ∃ (D : Addr) (c : V) (cv : Value) (b : Bool), xs = [.ref a, c] ∧ cls = .ref D ∧ OexE K D ∧ d = none ∧ ClsV c cv ∧ PySem.W.kitOne K (.ref D) cv = some b ∧ Q (.bl b) H
theorem call_isPn (hz : Zc cls d oe) (hf : ∃ vs, oe.data = .fields vs) : CallR (X.suite a ((a, oe) :: pn)) (.builtin "isinstance") (rIsPn X.K a cls d) := by
  intro pins s σ H xs us Q I r h
  obtain ⟨D, c, cv, b, rfl, ec, T, ed, k, e, q⟩ := h
  subst ec
  subst ed
  exact call_isP (X := X.suite a ((a, oe) :: pn)) (p := (a, oe)) T List.mem_cons_self hz hf pins s σ H _ us Q I r ⟨c, cv, b, rfl, k, e, q⟩
end
end Vx
end L2
namespace Vf
open PySem PySem.Spec PyProof.Rows L2 L2.Vx Vs Vm Vd
/-! ### languages over other letters are refused -/
abbrev sRef : Stmt := top 59
abbrev nRef : List Str := ["_law_word", "_law_one", "_law_two", "_law_told", "e"]
structure TxtRf (K : PySem.W.Frag) (mg : Str → Option Value) (C CO CP : Addr) : Prop extends TxtO K mg C CO where
  isi : mg "isinstance" = none
  gP : mg "PieceError" = some (.ref CP)
  eOO : PySem.W.exmOne K (.ref CO) (.ref CO) = some true
  eOP : PySem.W.kitOne K (.ref CO) (.ref CP) = some true
  vP : ClsV (.ref CP) (.ref CP)
def spRef (C : Addr) : Sp := fun vs H Q _ => ∃ (x : Str) (p p' : Addr) (a b : Str) (A B : List (List Nat)) (eA eB : List Nat), vs = [.str x, .ref p, .ref p'] ∧ LG C H p a A eA ∧ LG C H p' b B eB ∧ Abc a ∧ a ≠ b ∧ A.length * B.length ≤ 1000 ∧ ∀ H', Same H H' → Q (.bl true) H'
section
variable {P : Program} {w : World} {K : PySem.W.Frag} {mg : Str → Option Value} {base : Heap} {C CO CP : Addr}
theorem scRef : FnScope nRef ["_law_word", "_law_one", "_law_two"] (defScope sRef) := ⟨rfl, rfl, rfl, by decide +kernel, rfl, by decide +kernel, by decide +kernel⟩
theorem ok_ref {f fO fA fS fD fL : Addr} {fd fdO fdA fdS fdD fdL : FuncData} (F : Fun K "_law_refused" "_law_refused" sRef f fd) (T : TxtRf K mg C CO CP)
    (sf : PySem.W.selfFirst K C = true)
    (hOr : PySem.W.findIn K (.ref C) (PySem.dunder Operator.BitOr.info.2) = some (some (.ref fO))) (fOr : PySem.W.isFn K (.ref fO) = true) (GOr : FnOk P w K mg base (L2.CX P w) 8 fO fdO ["self", "other"] (spOp C CO fun x y => x || y)) (bOr : L2.Binds K fdO ["self", "other"] [])
    (hAnd : PySem.W.findIn K (.ref C) (PySem.dunder Operator.BitAnd.info.2) = some (some (.ref fA))) (fAnd : PySem.W.isFn K (.ref fA) = true) (GAnd : FnOk P w K mg base (L2.CX P w) 8 fA fdA ["self", "other"] (spOp C CO fun x y => x && y)) (bAnd : L2.Binds K fdA ["self", "other"] [])
    (hSub : PySem.W.findIn K (.ref C) (PySem.dunder Operator.Sub.info.2) = some (some (.ref fS))) (fSub : PySem.W.isFn K (.ref fS) = true) (GSub : FnOk P w K mg base (L2.CX P w) 8 fS fdS ["self", "other"] (spOp C CO fun x y => x && !y)) (bSub : L2.Binds K fdS ["self", "other"] [])
    (hAdd : PySem.W.findIn K (.ref C) (PySem.dunder Operator.Add.info.2) = some (some (.ref fD))) (fAdd : PySem.W.isFn K (.ref fD) = true) (GAdd : FnOk P w K mg base (L2.CX P w) 2 fD fdD ["self", "other"] (spAdd C CO)) (bAdd : L2.Binds K fdD ["self", "other"] [])
    (hLe : PySem.W.findIn K (.ref C) "__le__" = some (some (.ref fL))) (fLe : PySem.W.isFn K (.ref fL) = true) (GLe : FnOk P w K mg base (L2.CX P w) 3 fL fdL ["self", "other"] (spLe C CO)) (bLe : L2.Binds K fdL ["self", "other"] []) :
    FnOk P w K mg base CX0 9 f fd ["_law_word", "_law_one", "_law_two"] (spRef C) := by
  refine F.ok scRef (fun vs H Q E h => ?_) (fun cdv Ar outer s H vs Q E hr h => ?_)
  · obtain ⟨x, p, p', a, b, A, B, eA, eB, rfl, _⟩ := h
    rfl
  obtain ⟨x, p, p', a, b, A, B, eA, eB, rfl, hA, hB, X, ne, few, q⟩ := h
  have hr2 : Room 2 _ := hr.mono (by decide)
  have hr3 : Room 3 _ := hr.mono (by decide)
  have hu1 : (Ar.deeper (envOfC "_law_refused" (defScope sRef) s.heap.objs.size f cdv)).units < cLine := by
    have z := hr.un
    omega
  refine ⟨_, (pss_cons (ps_set (i := 3) scRef.nd rfl (Or.inl rfl) pe_non)
    (pss_cons (ps_try_nm rfl rfl scRef.nd takes0 (fun W pn xe tk _ => (pss_one
      (ps_if (pt_cmpR op_eq (pv 0) pe_str (nomark _)) (pss_one (ps_set (i := 3) scRef.nd rfl (Or.inl rfl) (pe_binAt (Es := WE W) sf hOr fOr GOr hr bOr (fun σ => passAt tk σ) (pv 1) (pv 2))))
      (pss_one (ps_if (pt_cmpR op_eq (pv 0) pe_str (nomark _)) (pss_one (ps_set (i := 3) scRef.nd rfl (Or.inl rfl) (pe_binAt (Es := WE W) sf hAnd fAnd GAnd hr bAnd (fun σ => passAt tk σ) (pv 1) (pv 2))))
      (pss_one (ps_if (pt_cmpR op_eq (pv 0) pe_str (nomark _)) (pss_one (ps_set (i := 3) scRef.nd rfl (Or.inl rfl) (pe_binAt (Es := WE W) sf hSub fSub GSub hr bSub (fun σ => passAt tk σ) (pv 1) (pv 2))))
      (pss_one (ps_if (pt_cmpR op_eq (pv 0) pe_str (nomark _)) (pss_one (ps_set (i := 3) scRef.nd rfl (Or.inl rfl) (pe_binAt (Es := WE W) sf hAdd fAdd GAdd hr2 bAdd (fun σ => passAt tk σ) (pv 1) (pv 2))))
      (pss_one (ps_set (i := 3) scRef.nd rfl (Or.inl rfl) (pe_leAt (Es := WE W) hLe fLe GLe hr3 bLe (fun σ => passAt tk σ) hu1 (pv 1) (pv 2) (nomark _))))))))))))) (.cons (i := 4) rfl rfl ⟨rfl, by decide, .inl T.gO⟩ (fun a oe cls d pn hz hf => (pss_one (ps_set (i := 3) scRef.nd rfl (Or.inl rfl) (pe_ifExp (pt_val (pe_callB (call_isPn hz hf) (by rfl) T.isi (by decide +kernel) (pa_cons (pv 4) (pa_cons (pe_glob (v := .ref CP) rfl T.gP rfl) pa_nil)))) pe_str pe_str)))) .nil))
    (pss_one (ps_ret (pe_cmpR op_eq (pv 3) pe_str (nomark _)))))), ?_⟩
  obtain ⟨dx, _, _, h1, _, _⟩ := id hA.at_
  obtain ⟨dy, _, _, g1, _, _⟩ := id hB.at_
  refine ⟨_, rfl, rfl, _, rfl, ?_⟩
  by_cases c1 : V.str x = V.str "or"
  · refine if_tr (decide_eq_true c1) ?_
    exact ⟨_, rfl, _, rfl, p, dx, _, p', dy, _, rfl, rfl, h1, g1, p, p', a, b, A, B, eA, eB, rfl, hA, hB, X, few, (fun _ H' sX => ⟨true, T.eOO, (fun _ e0 he => ⟨_, rfl, CO, _, _, true, rfl, rfl, T.z.T, rfl, T.vP, T.eOP, true, rfl, if_tr rfl ⟨_, rfl, rfl, by rw [decide_eq_true rfl]; exact q _ sX⟩⟩), (fun z => nomatch z)⟩), fun e => absurd e ne⟩
  refine if_fl (decide_eq_false c1) ?_
  refine ⟨_, rfl, rfl, _, rfl, ?_⟩
  by_cases c2 : V.str x = V.str "and"
  · refine if_tr (decide_eq_true c2) ?_
    exact ⟨_, rfl, _, rfl, p, dx, _, p', dy, _, rfl, rfl, h1, g1, p, p', a, b, A, B, eA, eB, rfl, hA, hB, X, few, (fun _ H' sX => ⟨true, T.eOO, (fun _ e0 he => ⟨_, rfl, CO, _, _, true, rfl, rfl, T.z.T, rfl, T.vP, T.eOP, true, rfl, if_tr rfl ⟨_, rfl, rfl, by rw [decide_eq_true rfl]; exact q _ sX⟩⟩), (fun z => nomatch z)⟩), fun e => absurd e ne⟩
  refine if_fl (decide_eq_false c2) ?_
  refine ⟨_, rfl, rfl, _, rfl, ?_⟩
  by_cases c3 : V.str x = V.str "less"
  · refine if_tr (decide_eq_true c3) ?_
    exact ⟨_, rfl, _, rfl, p, dx, _, p', dy, _, rfl, rfl, h1, g1, p, p', a, b, A, B, eA, eB, rfl, hA, hB, X, few, (fun _ H' sX => ⟨true, T.eOO, (fun _ e0 he => ⟨_, rfl, CO, _, _, true, rfl, rfl, T.z.T, rfl, T.vP, T.eOP, true, rfl, if_tr rfl ⟨_, rfl, rfl, by rw [decide_eq_true rfl]; exact q _ sX⟩⟩), (fun z => nomatch z)⟩), fun e => absurd e ne⟩
  refine if_fl (decide_eq_false c3) ?_
  refine ⟨_, rfl, rfl, _, rfl, ?_⟩
  have sX : Same H H := Same.refl H
  by_cases c4 : V.str x = V.str "then"
  · refine if_tr (decide_eq_true c4) ?_
    exact ⟨_, rfl, _, rfl, p, dx, _, p', dy, _, rfl, rfl, h1, g1, p, p', a, b, A, B, eA, eB, rfl, hA, hB, ne, ⟨true, T.eOO, (fun _ e0 he => ⟨_, rfl, CO, _, _, true, rfl, rfl, T.z.T, rfl, T.vP, T.eOP, true, rfl, if_tr rfl ⟨_, rfl, rfl, by rw [decide_eq_true rfl]; exact q _ sX⟩⟩), (fun z => nomatch z)⟩⟩
  refine if_fl (decide_eq_false c4) ?_
  exact ⟨_, rfl, _, rfl, p, dx, _, p', dy, _, rfl, rfl, h1, g1, p, p', a, b, A, B, eA, eB, rfl, hA, hB, few, (fun _ => ⟨true, T.eOO, (fun _ e0 he => ⟨_, rfl, CO, _, _, true, rfl, rfl, T.z.T, rfl, T.vP, T.eOP, true, rfl, if_tr rfl ⟨_, rfl, rfl, by rw [decide_eq_true rfl]; exact q _ sX⟩⟩), (fun z => nomatch z)⟩), fun e => absurd e ne⟩
end
end Vf

set_option Elab.async false
set_option linter.all false
set_option maxRecDepth 100000
set_option maxHeartbeats 1000000
/-! ### machines as texts -/
namespace Mt
open PySem PySem.Builtin PySem.Builtin.Str PySem.StrLaws TL
def numS (n : Nat) : Str := Str.ofString (toString ((n : Nat) : Int))
theorem tl_numS (n : Nat) : tl (numS n) = numL n := tl_num n
theorem numS_inj {m n : Nat} (h : numS m = numS n) : m = n := numL_inj (by rw [← tl_numS, ← tl_numS, h])
def rowS (ns : List Nat) : Str := Txt.join " " (ns.map numS)
def endS (ns : List Nat) : Str := if ns = [] then "ends" else "ends " ++ rowS ns
def linesS (a : Str) (rows : List (List Nat)) (ends : List Nat) : List Str := ("letters " ++ a) :: endS ends :: rows.map rowS
def machS (a : Str) (rows : List (List Nat)) (ends : List Nat) : Str := Txt.join "\n" (linesS a rows ends)
theorem tl_sp : tl (" " : Str) = [32] := by decide +kernel
theorem tl_nl : tl ("\n" : Str) = [10] := by decide +kernel
theorem tl_joinT (y : Str) (ps : List Str) : tl (Txt.join y ps) = joinL (tl y) (ps.map tl) := by rw [join_eq, tl_join]
theorem mem_joinL {S : List Nat} {x : Nat} : ∀ {ps : List (List Nat)}, x ∈ joinL S ps → x ∈ S ∨ ∃ p ∈ ps, x ∈ p
  | [], h => nomatch h
  | [p], h => .inr ⟨p, List.mem_singleton.mpr rfl, h⟩
  | p :: q :: r, h => by
    rcases List.mem_append.mp (show x ∈ p ++ (S ++ joinL S (q :: r)) from h) with h | h
    · exact .inr ⟨p, List.mem_cons_self .., h⟩
    · rcases List.mem_append.mp h with h | h
      · exact .inl h
      · rcases mem_joinL h with h | ⟨z, hz, h⟩
        · exact .inl h
        · exact .inr ⟨z, List.mem_cons_of_mem _ hz, h⟩
theorem num_free {n s : Nat} (h : s < 48 ∨ 57 < s) : s ∉ tl (numS n) := by rw [tl_numS]; exact numL_free h
theorem split_row {ns : List Nat} (h : ns ≠ []) : Txt.split (rowS ns) " " = ns.map numS :=
  split_join tl_sp (by decide +kernel) (fun e => h (List.map_eq_nil_iff.mp e)) fun p hp => by
    obtain ⟨n, _, rfl⟩ := List.mem_map.mp hp
    exact num_free (.inl (by decide))
theorem row_free {ns : List Nat} : 10 ∉ tl (rowS ns) := fun h => by
  unfold rowS at h
  rw [tl_joinT, tl_sp] at h
  rcases mem_joinL h with h | ⟨p, hp, h⟩
  · exact absurd h (by decide)
  · obtain ⟨z, hz, rfl⟩ := List.mem_map.mp hp
    obtain ⟨n, _, rfl⟩ := List.mem_map.mp hz
    exact num_free (.inl (by decide)) h
theorem let_join (a : Str) : ("letters " : Str) ++ a = Txt.join " " ["letters", a] := by
  apply ext_tl
  rw [tl_append, tl_joinT]
  show tl ("letters " : Str) ++ tl a = tl ("letters" : Str) ++ (tl (" " : Str) ++ tl a)
  rw [← List.append_assoc]
  congr 1
theorem split_let {a : Str} (h : 32 ∉ tl a) : Txt.split ("letters " ++ a) " " = [("letters" : Str), a] := by
  rw [let_join]
  refine split_join tl_sp (by decide +kernel) (by simp) fun p hp => ?_
  rcases List.mem_cons.mp hp with rfl | hp
  · decide +kernel
  · rw [List.mem_singleton.mp hp]
    exact h
theorem end_join (ns : List Nat) : endS ns = Txt.join " " (("ends" : Str) :: ns.map numS) := by
  unfold endS
  cases ns with
  | nil => rw [if_pos rfl, join_eq]; rfl
  | cons n r =>
    rw [if_neg (by simp)]
    apply ext_tl
    rw [tl_append]
    unfold rowS
    rw [tl_joinT, tl_joinT]
    show tl ("ends " : Str) ++ _ = tl ("ends" : Str) ++ (tl (" " : Str) ++ _)
    rw [← List.append_assoc]
    congr 1
theorem split_end (ns : List Nat) : Txt.split (endS ns) " " = ("ends" : Str) :: ns.map numS := by
  rw [end_join]
  refine split_join tl_sp (by decide +kernel) (by simp) fun p hp => ?_
  rcases List.mem_cons.mp hp with rfl | hp
  · decide +kernel
  · obtain ⟨n, _, rfl⟩ := List.mem_map.mp hp
    exact num_free (.inl (by decide))
theorem end_free (ns : List Nat) : 10 ∉ tl (endS ns) := fun h => by
  rw [end_join, tl_joinT, tl_sp] at h
  rcases mem_joinL h with h | ⟨p, hp, h⟩
  · exact absurd h (by decide)
  · obtain ⟨z, hz, rfl⟩ := List.mem_map.mp hp
    rcases List.mem_cons.mp hz with rfl | hz
    · exact absurd h (by decide +kernel)
    · obtain ⟨n, _, rfl⟩ := List.mem_map.mp hz
      exact num_free (.inl (by decide)) h
theorem split_mach {a : Str} (h : 10 ∉ tl a) (rows : List (List Nat)) (ends : List Nat) : Txt.split (machS a rows ends) "\n" = linesS a rows ends := by
  refine split_join tl_nl (by decide +kernel) (by unfold linesS; simp) fun p hp => ?_
  rcases List.mem_cons.mp hp with rfl | hp
  · rw [tl_append]
    intro z
    rcases List.mem_append.mp z with z | z
    · exact absurd z (by decide +kernel)
    · exact h z
  · rcases List.mem_cons.mp hp with rfl | hp
    · exact end_free ends
    · obtain ⟨r, _, rfl⟩ := List.mem_map.mp hp
      exact row_free
/-- the law's way to write the ends -/
theorem joinL_nil : ∀ ps : List (List Nat), joinL [] ps = ps.flatten
  | [] => rfl
  | [p] => by rw [List.flatten_cons, List.flatten_nil, List.append_nil]; rfl
  | p :: q :: r => by
    show p ++ ([] ++ joinL [] (q :: r)) = _
    rw [joinL_nil (q :: r), List.nil_append]
    exact (List.flatten_cons ..).symm
theorem joinL_cons (s : Nat) (p : List Nat) : ∀ ps : List (List Nat), joinL [s] (p :: ps) = p ++ (ps.map fun q => s :: q).flatten
  | [] => by rw [List.map_nil, List.flatten_nil, List.append_nil]; rfl
  | q :: r => by
    show p ++ ([s] ++ joinL [s] (q :: r)) = _
    rw [joinL_cons s q r, List.map_cons, List.flatten_cons]
    rfl
theorem law_end (ns : List Nat) : ("ends" : Str) ++ Txt.join "" (ns.map fun n => (" " : Str) ++ numS n) = endS ns := by
  apply ext_tl
  rw [end_join, tl_append, tl_joinT, tl_joinT, tl_sp, List.map_cons, joinL_cons]
  congr 1
  rw [show tl ("" : Str) = [] from by decide +kernel, joinL_nil]
  congr 1
  rw [List.map_map, List.map_map, List.map_map]
  refine List.map_congr_left fun n _ => ?_
  show tl ((" " : Str) ++ numS n) = 32 :: tl (numS n)
  rw [tl_append, tl_sp]
  rfl
/-! numbers as they are read -/
theorem numL_head {n : Nat} (h : 0 < n) : (numL n).head? ≠ some 48 := by
  induction n using Nat.strongRecOn with
  | _ n ih =>
    by_cases c : n < 10
    · rw [numL_lt c]
      intro z
      have := Option.some.inj z
      omega
    · have i2 := ih (n / 10) (by omega) (by omega)
      rw [numL_step (by omega)]
      cases e : numL (n / 10) with
      | nil => exact absurd e (numL_ne _)
      | cons x r => rw [e] at i2; exact i2
theorem num_len {n : Nat} (h : n < 1000000) : (numS n).length ≤ 6 := by
  rw [len_tl, tl_numS]
  exact numL_len (k := 6) (by decide) (by omega)
theorem num_ascii (n : Nat) : Txt.isascii (numS n) = true := by
  unfold Txt.isascii
  rw [Array.all_eq_true]
  intro i hi
  have hm : (numS n).cps[i] ∈ tl (numS n) := Array.mem_toList_iff.mpr (Array.getElem_mem hi)
  rw [tl_numS] at hm
  have := numL_digits n _ hm
  exact decide_eq_true (by omega)
theorem num_digit (n : Nat) : Txt.isdigit (numS n) = true := by
  unfold Txt.isdigit
  have hne := numL_ne n
  rw [← tl_numS] at hne
  rw [Bool.and_eq_true]
  refine ⟨decide_eq_true (by rw [len_tl]; exact List.length_pos_iff.mpr hne), ?_⟩
  rw [Array.all_eq_true]
  intro i hi
  have hm : (numS n).cps[i] ∈ tl (numS n) := Array.mem_toList_iff.mpr (Array.getElem_mem hi)
  rw [tl_numS] at hm
  have hd := numL_digits n _ hm
  generalize (numS n).cps[i] = c at hd
  have all : ∀ c : Nat, c < 58 → 48 ≤ c → Unicode.isDigit c = true := by decide +kernel
  exact all c (by omega) hd.1
theorem num_int {n : Nat} (h : n < 1000000) : PySem.intText? (numS n) = some (n : Int) := by
  refine int_num ?_
  have := numL_len (n := n) (k := 6) (by decide) (by omega)
  omega
end Mt

set_option Elab.async false
set_option linter.all false
set_option maxRecDepth 100000
set_option maxHeartbeats 4000000
namespace L2
open PySem PySem.Spec PyProof.Rows
/-! ### str(o) of an object with an own __str__ -/
section
variable {X : Cx} {CX : CXT} {k : Nat} {f C : Addr} {fd : FuncData} {ps : List Str} {sp : Sp} {E : XK} {dvs : List V} {ds : List Value}
theorem run_in2 {pins : List (Addr × Obj)} {σ : St} {H : Hp} {s : Shared} {Q : VK} {us : List Value} {vs : List V} {E' : Value → Shared → Prop} (F : FnOk X.prog X.w X.K X.mg X.base CX k f fd ps sp) (hr : Room (k + 2) X.A) (hb : Binds X.K fd ps ds) (hd : Vals dvs ds) (hx : Passes CX X.nox E)
    (I : Inv X pins σ H s) (r : Vals vs us) (h : sp (vs ++ dvs) H Q E) : wpAny (model X.prog X.w) X.A.in1.in1 (call (.ref f) us) (EP X pins σ Q) E' s := by
  have r2 : Vals (vs ++ dvs) (us ++ ds) := r.append hd
  have hl : (us ++ ds).length = ps.length := by rw [← r2.length]; exact F.len _ _ _ _ h
  refine wpAny_call (codeAny_mono (F.run X.A.in1.in1 X.stack s H ⟨us, []⟩ (us ++ ds) (vs ++ dvs) Q E (Room.in1 (Room.in1 hr)) I.env0.in1.in1 (hb s us I.kIn hl) r2 h) fun r s' hq => ?_)
  cases r with
  | error e => exact False.elim (hx pins σ H s e s' (I.wish _) hq)
  | ok fl =>
    cases fl with
    | ret u => exact I.after hq
    | next => exact False.elim hq
    | brk => exact False.elim hq
    | cont => exact False.elim hq
def rStrO (C : Addr) (sp : Sp) (E : XK) : List V → Hp → VK → Prop := fun xs H Q => ∃ a dx fs, xs = [.ref a] ∧ H a = some (.ins C dx fs) ∧ sp [.ref a] H (fun v H' => ∃ y : Str, v = .str y ∧ Q (.str y) H') E
theorem call_strO (hm : Meth X.K C "__str__" f) (F : FnOk X.prog X.w X.K X.mg X.base CX k f fd ps sp) (hr : Room (k + 2) X.A) (hb : Binds X.K fd ps []) (hx : Passes CX X.nox E) :
    CallR X (.type "str") (rStrO C sp E) := by
  intro pins s σ H xs us Q I r h
  obtain ⟨a, dx, fs, rfl, ea, q⟩ := h
  cases r with
  | cons rv rn =>
    cases rn
    rename_i u
    obtain rfl : u = Value.ref a := rv
    obtain ⟨mA, O, _, _, _, _⟩ := ins_get I.hok ea
    obtain ⟨od, J, _⟩ := O.look
    have go := run_in2 (dvs := []) (ds := []) (us := [.ref a]) (vs := [.ref a]) (E' := X.xe) F hr hb .nil hx I (.cons rfl .nil) q
    refine PySem.W.kso_call (by
      have z := (Room.in1 (Room.in1 hr)).un
      omega) I.kIn J hm.at_ hm.fn (wpAny_mono go (fun r s' hr' => ?_) fun _ _ y => y)
    obtain ⟨v1, H1, I1, r1, y, rfl, q1⟩ := hr'
    obtain ⟨t, rfl⟩ : ∃ t, r = Value.str y t := r1
    exact ⟨.str y, H1, I1, ⟨_, rfl⟩, q1⟩
end
end L2

set_option Elab.async false
set_option linter.all false
set_option maxRecDepth 100000
set_option maxHeartbeats 2000000
namespace Vf
open PySem PySem.Spec PyProof.Rows L2 L2.Vx Vs Mt
/-! ### a machine's text, written -/
abbrev sNl : Stmt := top 33
abbrev sLo : Stmt := top 34
abbrev nNl : List Str := ["numbers", "number"]
abbrev nLo : List Str := ["letters", "rows", "ends", "ends_line", "row"]
structure TxtNl (mg : Str → Option Value) : Prop where
  str : mg "str" = none
def spNl : Sp := fun vs H Q _ => ∃ (v : V) (ns : List Nat), vs = [v] ∧ NatsAt H v ns ∧ (∀ n ∈ ns, n < 1000000) ∧ ns.length ≤ 1000 ∧ ∀ H', Same H H' → Q (.str (rowS ns)) H'
def spLo : Sp := fun vs H Q _ => ∃ (a : Str) (vr ve : V) (rows : List (List Nat)) (ends : List Nat), vs = [.str a, vr, ve] ∧ a.length ≤ 100 ∧ MRowsAt H vr rows ∧ NatsAt H ve ends ∧ (∀ r ∈ rows, r.length ≤ 100 ∧ ∀ n ∈ r, n < 1000000) ∧ (∀ n ∈ ends, n < 1000000) ∧ ends.length ≤ 1000 ∧ rows.length ≤ 1000 ∧
  ∀ (p : Addr) H', Same H H' → H p = none → H' p = some (.lst ((linesS a rows ends).map .str)) → Q (.ref p) H'
theorem sum_le {l : List Str} {b : Nat} (h : ∀ x ∈ l, x.length ≤ b) : (l.map (·.length)).sum ≤ l.length * b := by
  induction l with
  | nil => exact Nat.zero_le _
  | cons x r ih =>
    have i := ih fun y hy => h y (List.mem_cons_of_mem _ hy)
    have j := h x (List.mem_cons_self ..)
    rw [List.map_cons, List.sum_cons, List.length_cons, Nat.add_mul, Nat.one_mul]
    omega
theorem join_len {y : Str} {b : Nat} : ∀ {l : List Str}, (∀ x ∈ l, x.length ≤ b) → (Txt.join y l).length ≤ l.length * (b + y.length)
  | [], _ => Nat.zero_le _
  | [x], h => by
    have := h x (List.mem_singleton.mpr rfl)
    show x.length ≤ 1 * (b + y.length)
    omega
  | x :: z :: r, h => by
    have i := join_len (y := y) (l := z :: r) fun w hw => h w (List.mem_cons_of_mem _ hw)
    have j := h x (List.mem_cons_self ..)
    have e : (Txt.join y (x :: z :: r)).length = x.length + (y.length + (Txt.join y (z :: r)).length) := by
      rw [TL.len_tl, TL.len_tl, TL.len_tl, TL.len_tl, tl_joinT, tl_joinT]
      show (TL.tl x ++ (TL.tl y ++ TL.joinL (TL.tl y) ((z :: r).map TL.tl))).length = _
      rw [List.length_append, List.length_append]
    rw [e, List.length_cons, Nat.add_mul, Nat.one_mul]
    omega
theorem row_len {ns : List Nat} (h : ∀ n ∈ ns, n < 1000000) : (rowS ns).length ≤ ns.length * 7 := by
  have z := join_len (y := " ") (b := 6) (l := ns.map numS) fun x hx => by
    obtain ⟨n, hn, rfl⟩ := List.mem_map.mp hx
    exact num_len (h n hn)
  rw [List.length_map] at z
  exact z
section
variable {P : Program} {w : World} {K : PySem.W.Frag} {mg : Str → Option Value} {base : Heap}
theorem scNl : FnScope nNl ["numbers"] (defScope sNl) := ⟨rfl, rfl, rfl, by decide +kernel, rfl, by decide +kernel, by decide +kernel⟩
theorem scLo : FnScope nLo ["letters", "rows", "ends"] (defScope sLo) := ⟨rfl, rfl, rfl, by decide +kernel, rfl, by decide +kernel, by decide +kernel⟩
theorem log_small {n : Nat} (h : n < 1000000) : ((n : Int)).natAbs.log2 < 1920 := by
  show n.log2 < 1920
  by_cases c : n = 0
  · rw [c]; decide
  · exact Nat.lt_trans ((Nat.log2_lt c).mpr (Nat.lt_of_lt_of_le h (show 1000000 ≤ 2 ^ 20 by decide))) (by decide)
theorem ok_nl {f : Addr} {fd : FuncData} (F : Fun K "numbers_line" "numbers_line" sNl f fd) (T : TxtNl mg) : FnOk P w K mg base CX0 1 f fd ["numbers"] spNl := by
  refine F.ok scNl (fun vs H Q E h => ?_) (fun cdv A outer s H vs Q E hr h => ?_)
  · obtain ⟨v, ns, rfl, _⟩ := h
    rfl
  obtain ⟨v, ns, rfl, ⟨a, rfl, ha⟩, hb, hl, q⟩ := h
  refine ⟨_, (pss_one (ps_ret (pe_join pe_str (pe_lc (own := [("number", 1)]) (g := gName 1) (tt := tYes) rfl scNl.nd (pi_tup (pv 0)) (blkOk_by (N := nNl) (sc := defScope sNl) (by decide +kernel)) (fun _ _ _ _ _ => by exact pg_name (i := 1) scNl.nd rfl (Or.inl rfl)) (fun _ _ _ _ _ => pts_nil)
    (fun _ _ _ _ _ => by exact pe_callTy call_str_int (by rfl) T.str (by decide +kernel) (pa_cons (pv 1) pa_nil)))))), ?_⟩
  refine ⟨⟨_, rfl⟩, _, rfl, a, rfl, ⟨_, SqT.of ha⟩, fun D hDn => ?_⟩
  refine lc_it (walk_tup (xs := ns.map nI)) (fun i H' => H' D = some (.lst (((ns.take i).map numS).map .str)) ∧ Same H H') ⟨upd_same, same_new hDn _⟩ (fun i H' _ ⟨_, s⟩ => SqT.of (s _ _ ha)) ?_ ?_
  · rintro i y H5 H6 hi ⟨m1, m2⟩ ⟨rfl, hy⟩
    rw [List.getElem?_map] at hy
    obtain ⟨n, hn, rfl⟩ := Option.map_eq_some_iff.mp hy
    refine ⟨rfl, _, rfl, _, rfl, log_small (hb n (List.mem_of_getElem? hn)), _, m1, ?_, ?_, fun b' u' e' => ?_⟩
    · rw [List.length_map, List.length_map, sizeLine_eq]
      have := List.length_take_le' i ns
      omega
    · rw [upd_same, List.take_add_one, hn, List.map_append, List.map_append]
      rfl
    · rw [upd_ne (ne_of_none e' hDn)]
      exact m2 b' u' e'
  rintro H5 ⟨m1, m2⟩
  rw [List.length_map, List.take_length] at m1
  refine ⟨_, D, ns.map numS, rfl, rfl, .inl (SqL.of m1), ?_, q H5 m2⟩
  have z := sum_le (l := ns.map numS) (b := 6) fun x hx => by
    obtain ⟨n, hn, rfl⟩ := List.mem_map.mp hx
    exact num_len (hb n hn)
  rw [List.length_map] at z ⊢
  have : (" " : Str).length = 1 := by decide +kernel
  rw [this]
  omega
end
end Vf

set_option Elab.async false
set_option linter.all false
set_option maxRecDepth 100000
set_option maxHeartbeats 2000000
namespace Vf
open PySem PySem.Spec PyProof.Rows L2 L2.Vx Vs Mt
/-! ### the lines of a machine; str(language) -/
abbrev sLStr : Stmt := inClass clsL 2
theorem empty_app (x y : Str) : Str.empty ++ x ++ y = x ++ y := by
  apply TL.ext_tl
  rw [TL.tl_append, TL.tl_append, TL.tl_append]
  rfl
theorem endS_len {ns : List Nat} (h : ∀ n ∈ ns, n < 1000000) (hl : ns.length ≤ 1000) : (endS ns).length ≤ 7005 := by
  unfold endS
  split
  · decide +kernel
  · rw [TL.len_tl, TL.tl_append, List.length_append, ← TL.len_tl, ← TL.len_tl]
    have := row_len h
    have : ("ends " : Str).length = 5 := by decide +kernel
    omega
theorem lines_len {a : Str} {rows : List (List Nat)} {ends : List Nat} (ha : a.length ≤ 100) (hr : ∀ r ∈ rows, r.length ≤ 100 ∧ ∀ n ∈ r, n < 1000000) (he : ∀ n ∈ ends, n < 1000000) (hl : ends.length ≤ 1000) : ∀ x ∈ linesS a rows ends, x.length ≤ 7005 := by
  intro x hx
  rcases List.mem_cons.mp hx with rfl | hx
  · rw [TL.len_tl, TL.tl_append, List.length_append, ← TL.len_tl, ← TL.len_tl]
    have : ("letters " : Str).length = 8 := by decide +kernel
    omega
  · rcases List.mem_cons.mp hx with rfl | hx
    · exact endS_len he hl
    · obtain ⟨r, hr', rfl⟩ := List.mem_map.mp hx
      have := row_len (hr r hr').2
      have := (hr r hr').1
      omega
section
variable {P : Program} {w : World} {K : PySem.W.Frag} {mg : Str → Option Value} {base : Heap} {C : Addr}
theorem ok_lo {f fN : Addr} {fd fdN : FuncData} (F : Fun K "lines_of" "lines_of" sLo f fd)
    (GN : FnOk P w K mg base CX0 1 fN fdN ["numbers"] spNl) (bN : Binds K fdN ["numbers"] []) (kN : PySem.W.keepIn K (.ref fN) = true) (mN : mg "numbers_line" = some (.ref fN)) :
    FnOk P w K mg base CX0 2 f fd ["letters", "rows", "ends"] spLo := by
  refine F.ok scLo (fun vs H Q E h => ?_) (fun cdv A outer s H vs Q E hr h => ?_)
  · obtain ⟨a, vr, ve, rows, ends, rfl, _⟩ := h
    rfl
  obtain ⟨a, vr, ve, rows, ends, rfl, ha, hR, hE, hr1, he1, hl, hl2, q⟩ := h
  obtain ⟨ra, rbs, rfl, hra, hN⟩ := hR.at_
  obtain ⟨ea, rfl, hea⟩ := id hE
  refine ⟨_, (C8.pss_cut (ps_set (i := 3) scLo.nd rfl (Or.inl rfl) (pe_ifExp (pt_truth (pv 2) (fun _ => rfl)) (pe_joined (PJ.cons pe_str (PJ.cons (pe_fmt (pe_call GN hr rfl mN kN bN .nil pass0 (pa_cons (pv 2) pa_nil))) PJ.nil))) pe_str))
    (pss_one (ps_ret (pe_lst (pa_cons (pe_joined (PJ.cons pe_str (PJ.cons (pe_fmt (pv 0)) PJ.nil))) (pa_cons (pv 3) (StX.pa_star (pe_lc (own := [("row", 4)]) (g := gName 4) (tt := tYes) rfl scLo.nd (pi_tup (pv 1)) (blkOk_by (N := nLo) (sc := defScope sLo) (by decide +kernel)) (fun _ _ _ _ _ => by exact pg_name (i := 4) scLo.nd rfl (Or.inl rfl)) (fun _ _ _ _ _ => pts_nil)
      (fun _ _ _ _ _ => by exact pe_call GN hr rfl mN kN bN .nil pass0 (pa_cons (pv 4) pa_nil))) pa_nil))))))), ?_⟩
  have el := endS_len he1 hl
  refine ⟨fun σ' H' => σ' = [some (V.str a), some (V.ref ra), some (V.ref ea), some (V.str (endS ends)), none] ∧ Same H H', ?_, ?_⟩
  · refine ⟨_, rfl, !(ends.map nI).isEmpty, .inr (.inl ⟨_, SqT.of hea, rfl⟩), ?_⟩
    cases ends with
    | nil => exact if_fl rfl ⟨rfl, Same.refl H⟩
    | cons e0 er =>
      have rl := row_len he1
      refine if_tr rfl ⟨_, rfl, by rw [sizeLine_eq]; decide +kernel, _, rfl, _, e0 :: er, rfl, hE, he1, hl, fun H' s1 => .inl ⟨_, rfl, by rw [sizeLine_eq]; omega, _, rfl, ?_, ?_, s1⟩⟩
      · rw [empty_app]
        show (endS (e0 :: er)).length ≤ sizeLine
        rw [sizeLine_eq]
        omega
      · rw [empty_app]
        rfl
  rintro σ' H1 ⟨rfl, s1⟩
  refine ⟨_, rfl, by rw [sizeLine_eq]; decide +kernel, _, rfl, .inl ⟨_, rfl, by rw [sizeLine_eq]; omega, _, rfl, ?_, ?_⟩⟩
  · rw [empty_app, TL.len_tl, TL.tl_append, List.length_append, ← TL.len_tl, ← TL.len_tl, sizeLine_eq]
    have : ("letters " : Str).length = 8 := by decide +kernel
    omega
  rw [empty_app]
  refine ⟨_, rfl, _, rfl, ra, rfl, ⟨_, SqT.of (s1 _ _ hra)⟩, fun D hDn => ?_⟩
  refine lc_it (walk_tup (xs := rbs)) (fun i H' => H' D = some (.lst (((rows.take i).map rowS).map .str)) ∧ Same H1 H') ⟨upd_same, same_new hDn _⟩ (fun i H' _ ⟨_, s⟩ => SqT.of (s _ _ (s1 _ _ hra))) ?_ ?_
  · rintro i y H5 H6 hi ⟨m1, m2⟩ ⟨rfl, hy⟩
    have hi' : i < rows.length := by rw [← hN.1]; exact hi
    obtain ⟨b, hb1, hb2⟩ := hN.get hi'
    rw [hb1] at hy
    obtain rfl := Option.some.inj hy
    have hm : rowOf rows i ∈ rows := List.mem_of_getElem? (rowOf_at hi')
    refine ⟨rfl, _, rfl, .ref b, rowOf rows i, rfl, ⟨b, rfl, m2 _ _ (s1 _ _ hb2)⟩, (hr1 _ hm).2, by have := (hr1 _ hm).1; omega, fun H7 s7 => ⟨_, s7 _ _ m1, ?_, ?_, fun b' u' e' => ?_⟩⟩
    · rw [List.length_map, List.length_map, sizeLine_eq]
      have := List.length_take_le' i rows
      omega
    · rw [upd_same, List.take_add_one, rowOf_at hi', List.map_append, List.map_append]
      rfl
    · rw [upd_ne (ne_of_none e' hDn)]
      exact s7 _ _ (m2 b' u' e')
  rintro H5 ⟨m1, m2⟩
  rw [hN.1, List.take_length] at m1
  refine ⟨D, _, rfl, .inr (SqL.of m1), ?_, fun p hp => ?_⟩
  · show ((rows.map rowS).map V.str ++ []).length + 1 + 1 ≤ sizeLine
    rw [List.append_nil, List.length_map, List.length_map, sizeLine_eq]
    omega
  have s2 := s1.trans m2
  refine q p _ (s2.trans (same_new hp _)) (s2.free hp) ?_
  rw [upd_same, List.append_nil]
  rfl
def spLStr (C : Addr) : Sp := fun vs H Q _ => ∃ (p : Addr) (a : Str) (rows : List (List Nat)) (ends : List Nat), vs = [.ref p] ∧ LangL C H p a rows ends ∧ a.length ≤ 100 ∧ (∀ r ∈ rows, r.length ≤ 100 ∧ ∀ n ∈ r, n < 1000000) ∧ (∀ n ∈ ends, n < 1000000) ∧ ends.length ≤ 1000 ∧ rows.length ≤ 1000 ∧
  ∀ H', Same H H' → Q (.str (machS a rows ends)) H'
theorem scLStr : FnScope ["self"] ["self"] (defScope sLStr) := ⟨rfl, rfl, rfl, by decide +kernel, rfl, by decide +kernel, by decide +kernel⟩
theorem ok_lstr {f fO : Addr} {fd fdO : FuncData} (F : Fun K "__str__" "Language.__str__" sLStr f fd) (T : TxtLg K mg C)
    (GO : FnOk P w K mg base CX0 2 fO fdO ["letters", "rows", "ends"] spLo) (bO : Binds K fdO ["letters", "rows", "ends"] []) (kO : PySem.W.keepIn K (.ref fO) = true) (mO : mg "lines_of" = some (.ref fO)) :
    FnOk P w K mg base CX0 3 f fd ["self"] (spLStr C) := by
  refine F.ok scLStr (fun vs H Q E h => ?_) (fun cdv A outer s H vs Q E hr h => ?_)
  · obtain ⟨p, a, rows, ends, rfl, _⟩ := h
    rfl
  obtain ⟨p, a, rows, ends, rfl, hL, ha, hr1, he1, hl, hl2, q⟩ := h
  obtain ⟨dx, vr, ve, h1, h2, h3⟩ := id hL
  refine ⟨_, (pss_one (ps_ret (pe_join pe_str (pe_call GO hr rfl mO kO bO .nil pass0 (pa_cons (pe_fld (pv 0) rfl) (pa_cons (pe_fld (pv 0) rfl) (pa_cons (pe_fld (pv 0) rfl) pa_nil))))))), ?_⟩
  refine ⟨⟨_, rfl⟩, _, rfl, p, C, dx, _, _, rfl, h1, T.cl, T.nL, rfl, _, rfl, p, C, dx, _, _, rfl, h1, T.cl, T.nR, rfl, _, rfl, p, C, dx, _, _, rfl, h1, T.cl, T.nE, rfl, a, vr, ve, rows, ends, rfl, ha, h2, h3, hr1, he1, hl, hl2, fun l H' s1 hln hl' => ?_⟩
  refine ⟨_, l, linesS a rows ends, rfl, rfl, .inl (SqL.of hl'), ?_, q H' s1⟩
  have z := sum_le (lines_len ha hr1 he1 hl)
  have ll : (linesS a rows ends).length = rows.length + 2 := by show (rows.map rowS).length + 1 + 1 = _; rw [List.length_map]
  have : ("\n" : Str).length = 1 := by decide +kernel
  rw [this]
  omega
end
end Vf

set_option Elab.async false
set_option linter.all false
set_option maxRecDepth 100000
set_option maxHeartbeats 4000000
namespace Vf
open PySem PySem.Spec PyProof.Rows L2 L2.Vx Vs Vm Vd Mt
/-! ### machines as texts, shown; letters that are no others -/
theorem neO_at {X : Cx} {K : PySem.W.Frag} {CX : CXT} {k : Nat} {f C : Addr} {fd : FuncData} {ps : List Str} {sp : Sp} {E : XK} (eK : X.K = K) (hm : PySem.W.mroIn K C (.type "object") = some true) (hs : PySem.W.findIn K (.ref C) "__eq__" = some (some (.ref f))) (hs2 : PySem.W.findIn K (.ref C) "__ne__" = some (some (.builtin "object.__ne__"))) (hf : PySem.W.isFn K (.ref f) = true)
    (F : FnOk X.prog X.w K X.mg X.base CX k f fd ps sp) (hr : Room (k + 1) X.A) (hb : L2.Binds K fd ps []) (hx : Passes CX X.nox E) (hu : X.A.units < cLine) (hu1 : X.A.in1.units < cLine) :
    OpR X (compareOp .NotEq) (rNeO K C sp E) := by
  subst eK
  exact op_neO hm hs hs2 hf F hr hb hx hu hu1
theorem bnd {A : List (List Nat)} {k : Nat} {e : List Nat} (M : Mach A k e) : (∀ r ∈ A, r.length ≤ 100 ∧ ∀ n ∈ r, n < 1000000) ∧ (∀ n ∈ e, n < 1000000) ∧ e.length ≤ 1000 ∧ A.length ≤ 1000 := by
  have few := M.sq.few
  have el := nodup_lt _ _ M.nodup M.lt
  refine ⟨fun r hr => ⟨by rw [M.sq.wide r hr]; exact M.sq.thin, fun n hn => ?_⟩, fun n hn => ?_, by omega, few⟩
  · have := M.sq.inn r hr n hn
    omega
  · have := M.lt n hn
    omega
theorem mach_len {a : Str} {A : List (List Nat)} {e : List Nat} (ha : a.length ≤ 4) (M : Mach A a.length e) (h : A.length ≤ 12) : (machS a A e).length ≤ 98084 := by
  obtain ⟨b1, b2, b3, b4⟩ := bnd M
  have z := join_len (y := "\n") (lines_len (a := a) (rows := A) (ends := e) (by omega) b1 b2 b3)
  have l2 : (linesS a A e).length = A.length + 2 := by show (A.map rowS).length + 1 + 1 = _; rw [List.length_map]
  have l3 : ("\n" : Str).length = 1 := by decide +kernel
  rw [l2, l3] at z
  refine Nat.le_trans z ?_
  have : (A.length + 2) * (7005 + 1) ≤ 14 * (7005 + 1) := Nat.mul_le_mul_right _ (by omega)
  omega
theorem mach_low {a : Str} {A : List (List Nat)} {e : List Nat} (h8 : ∀ c ∈ cp a, c < 128) : ∀ c ∈ cp (machS a A e), c < 1000 := by
  have num : ∀ (n : Nat) (c : Nat), c ∈ TL.tl (numS n) → c < 1000 := fun n c hc => by
    rw [tl_numS] at hc
    have := TL.numL_digits n c hc
    omega
  have row : ∀ (y : Str) (ns : List Nat) (hy : ∀ c ∈ TL.tl y, c < 1000) (c : Nat), c ∈ TL.tl (Txt.join y (ns.map numS)) → c < 1000 := fun y ns hy c hc => by
    rw [tl_joinT] at hc
    rcases mem_joinL hc with h | ⟨p, hp, h⟩
    · exact hy c h
    · obtain ⟨z, hz, rfl⟩ := List.mem_map.mp hp
      obtain ⟨n, _, rfl⟩ := List.mem_map.mp hz
      exact num n c h
  intro c hc
  have hc : c ∈ TL.tl (Txt.join "\n" (linesS a A e)) := hc
  rw [tl_joinT] at hc
  rcases mem_joinL hc with h | ⟨p, hp, h⟩
  · rw [tl_nl, List.mem_singleton] at h
    omega
  · obtain ⟨z, hz, rfl⟩ := List.mem_map.mp hp
    rcases List.mem_cons.mp hz with rfl | hz
    · rw [TL.tl_append] at h
      rcases List.mem_append.mp h with h | h
      · have : ∀ c ∈ TL.tl ("letters " : Str), c < 1000 := by decide +kernel
        exact this c h
      · exact Nat.lt_trans (h8 c h) (by decide)
    · rcases List.mem_cons.mp hz with rfl | hz
      · unfold endS at h
        split at h
        · have : ∀ c ∈ TL.tl ("ends" : Str), c < 1000 := by decide +kernel
          exact this c h
        · rw [TL.tl_append] at h
          rcases List.mem_append.mp h with h | h
          · have : ∀ c ∈ TL.tl ("ends " : Str), c < 1000 := by decide +kernel
            exact this c h
          · exact row " " _ (by rw [tl_sp]; decide) c h
      · obtain ⟨r, _, rfl⟩ := List.mem_map.mp hz
        exact row " " _ (by rw [tl_sp]; decide) c h
theorem mach_shows {a : Str} {A : List (List Nat)} {e : List Nat} (ha : a.length ≤ 4) (h8 : ∀ c ∈ cp a, c < 128) (M : Mach A a.length e) (h : A.length ≤ 12) : Shows (.str (machS a A e)) := by
  have e1 : machS a A e = Vm.mkS (cp (machS a A e)) := by cases machS a A e; rfl
  rw [e1]
  refine (Vm.fit_str (n := 98084) (mach_low h8) ?_).shows (by decide) (by decide)
  have z := mach_len ha M h
  rw [Array.length_toList]
  exact z

theorem mach_len4 {a : Str} {A : List (List Nat)} {e : List Nat} (ha : a.length ≤ 4) (M : Mach A a.length e) (h : A.length ≤ 4) : (machS a A e).length ≤ 300 := by
  obtain ⟨b1, b2, b3, b4⟩ := bnd M
  have el := nodup_lt _ _ M.nodup M.lt
  have ln : ∀ x ∈ linesS a A e, x.length ≤ 40 := by
    intro x hx
    rcases List.mem_cons.mp hx with rfl | hx
    · rw [TL.len_tl, TL.tl_append, List.length_append, ← TL.len_tl, ← TL.len_tl]
      have : ("letters " : Str).length = 8 := by decide +kernel
      omega
    · rcases List.mem_cons.mp hx with rfl | hx
      · have z := row_len b2
        unfold endS
        split
        · decide +kernel
        · rw [TL.len_tl, TL.tl_append, List.length_append, ← TL.len_tl, ← TL.len_tl]
          have : ("ends " : Str).length = 5 := by decide +kernel
          omega
      · obtain ⟨r, hr', rfl⟩ := List.mem_map.mp hx
        have z := row_len (b1 r hr').2
        have := M.sq.wide r hr'
        omega
  have z := join_len (y := "\n") ln
  have l2 : (linesS a A e).length = A.length + 2 := by show (A.map rowS).length + 1 + 1 = _; rw [List.length_map]
  have l3 : ("\n" : Str).length = 1 := by decide +kernel
  rw [l2, l3] at z
  refine Nat.le_trans z ?_
  have : (A.length + 2) * (40 + 1) ≤ 6 * (40 + 1) := Nat.mul_le_mul_right _ (by omega)
  omega
theorem machs_shows {a : Str} {ms : List Str} (X : Abc a) (h : ∀ x ∈ ms, ∃ A e, x = machS a A e ∧ Mach A a.length e ∧ A.length ≤ 4) (hl : ms.length ≤ 4) : Shows (.list (ms.map PyData.str)) := by
  refine (fit_lst (b := 3002) (e := 0) (ds := ms.map PyData.str) fun x hx => ?_).shows ?_ (by decide)
  · obtain ⟨y, hy, rfl⟩ := List.mem_map.mp hx
    obtain ⟨A, e, rfl, M, few⟩ := h y hy
    have e1 : machS a A e = Vm.mkS (cp (machS a A e)) := by cases machS a A e; rfl
    rw [e1]
    refine fit_str (n := 300) (mach_low X.asc) ?_
    have z := mach_len4 X.four.2 M few
    rw [Array.length_toList]
    exact z
  · rw [List.length_map]
    have : ms.length * (3002 + 2) ≤ 4 * (3002 + 2) := Nat.mul_le_mul_right _ hl
    omega
def furC (b1 b2 b3 b4 : Bool) (n : Nat) : List Nat := (((if b1 = true then [] else [97]) ++ (if b2 = true then [] else [98]) ++ (if b3 = true then [] else [99]) ++ (if b4 = true then [] else [100])) : List Nat).take n
def fur (a : Str) : List Nat := [97, 98, 99, 100].filter fun c => !decide (c ∈ cp a)
theorem fur_C (a : Str) (n : Nat) : (fur a).take n = furC (decide (97 ∈ cp a)) (decide (98 ∈ cp a)) (decide (99 ∈ cp a)) (decide (100 ∈ cp a)) n := by
  unfold fur furC
  simp only [List.filter_cons, List.filter_nil]
  cases decide (97 ∈ cp a) <;> cases decide (98 ∈ cp a) <;> cases decide (99 ∈ cp a) <;> cases decide (100 ∈ cp a) <;> rfl
theorem furC_ok : ∀ b1 b2 b3 b4 : Bool, ∀ n ∈ [1, 2, 3], letB (mkS (furC b1 b2 b3 b4 n)) = true ∨ furC b1 b2 b3 b4 n = [] := by decide +kernel
theorem fur_ok {a : Str} (h1 : 1 ≤ a.length) (h3 : a.length ≤ 3) (e : ((fur a).take a.length).length = a.length) : Abc (mkS ((fur a).take a.length)) ∧ mkS ((fur a).take a.length) ≠ a := by
  have hm : ∀ c ∈ (fur a).take a.length, c ∉ cp a ∧ c < 128 := fun c hc => by
    obtain ⟨z1, z2⟩ := List.mem_filter.mp (List.mem_of_mem_take hc)
    refine ⟨by simpa using z2, ?_⟩
    simp only [List.mem_cons, List.not_mem_nil, or_false] at z1
    omega
  refine ⟨⟨?_, fun c hc => (hm c hc).2⟩, fun z => ?_⟩
  · rw [fur_C] at e ⊢
    have n123 : a.length ∈ [1, 2, 3] := by simp only [List.mem_cons, List.not_mem_nil, or_false]; omega
    rcases furC_ok (decide (97 ∈ cp a)) (decide (98 ∈ cp a)) (decide (99 ∈ cp a)) (decide (100 ∈ cp a)) _ n123 with q | q
    · exact q
    · rw [q] at e
      have : ([] : List Nat).length = 0 := rfl
      omega
  · have hne : (fur a).take a.length ≠ [] := fun q => by
      rw [q] at e
      have : ([] : List Nat).length = 0 := rfl
      omega
    obtain ⟨c, r, ec⟩ := List.exists_cons_of_ne_nil hne
    have hc : c ∈ (fur a).take a.length := by rw [ec]; exact List.mem_cons_self ..
    refine (hm c hc).1 ?_
    have e2 : cp (mkS ((fur a).take a.length)) = (fur a).take a.length := rfl
    rw [← e2, z] at hc
    exact hc
end Vf

set_option Elab.async false
set_option linter.all false
set_option maxRecDepth 100000
set_option maxHeartbeats 2000000
/-! ### list(zip(xs, ys)) of two tuples -/
namespace RZ
open PySem PySem.Spec PyProof.Rows L2
theorem zipL_no_len : typeLookup (.type "zip") "__len__" = pure none := by rw [typeLookup_type, builtinLookup_eq_fast]; kernel_rfl
theorem zipL_no_hint : typeLookup (.type "zip") "__length_hint__" = pure none := by rw [typeLookup_type, builtinLookup_eq_fast]; kernel_rfl
/-- the pairs of a zip, as far as it has come -/
def zipC (xs ys : List V) (i : Nat) : List (List V) := (List.range i).map fun j => [xs.getD j .non, ys.getD j .non]
def ZSt (z TI TO i1 i2 a b : Addr) (i : Nat) (h : Heap) : Prop := (∃ f0 f, IsZipG h z TI TO f0 f ∧ Own0 f0) ∧ IsPair h TI (.ref i1) (.ref i2) ∧ (∃ x y, IsPair h TO x y) ∧ h.IsTupleIter i1 a i ∧ h.IsTupleIter i2 b i
theorem ZSt.keep {z TI TO i1 i2 a b : Addr} {i : Nat} {h h' : Heap} (st : ZSt z TI TO i1 i2 a b i h) (k : ∀ c ∈ [z, TI, TO, i1, i2], ∀ o, h.get? c = some o → h'.get? c = some o) : ZSt z TI TO i1 i2 a b i h' := by
  obtain ⟨⟨f0, f, hz, ho⟩, hTI, ⟨x, y, hTO⟩, h1, h2⟩ := st
  exact ⟨⟨f0, f, k z (by simp) _ hz, ho⟩, k TI (by simp) _ hTI, ⟨x, y, k TO (by simp) _ hTO⟩, h1.at fun o q => k i1 (by simp) o q, h2.at fun o q => k i2 (by simp) o q⟩
theorem ZSt.lt {z TI TO i1 i2 a b : Addr} {i : Nat} {h : Heap} (st : ZSt z TI TO i1 i2 a b i h) : ∀ c ∈ [z, TI, TO, i1, i2], c < h.objs.size := by
  obtain ⟨⟨f0, f, hz, ho⟩, hTI, ⟨x, y, hTO⟩, ⟨o1, e1, _⟩, ⟨o2, e2, _⟩⟩ := st
  intro c hc
  have e' : c = z ∨ c = TI ∨ c = TO ∨ c = i1 ∨ c = i2 := by simpa using hc
  rcases e' with q | q | q | q | q
  · rw [q]; exact Heap.lt_size hz
  · rw [q]; exact Heap.lt_size hTI
  · rw [q]; exact Heap.lt_size hTO
  · rw [q]; exact Heap.lt_size e1
  · rw [q]; exact Heap.lt_size e2
theorem fp_at {X : Cx} {pins : List (Addr × Obj)} {H H' : Hp} {b : Addr} (h : FpOk X pins H b) (n : H' b = none) : FpOk X pins H' b := ⟨n, h.2⟩
theorem new_at {H : Hp} {p : Addr} (h : H p = none) (o : HO) : ∀ b u, H b = some u → upd H p o b = some u := fun b u e => by rw [upd_ne (ne_of_none e h)]; exact e
theorem zip_loop {X : Cx} {pins : List (Addr × Obj)} {σ : L2.St} {z TI TO i1 i2 a b S : Addr} {xs ys : List V} {H0 : Hp} {A : Around} {R : Result → Shared → Prop} {res : Value} (hh : A.handled = none) (D : ZipApart z TI TO i1 i2 a b) (n : Nat) (hn : n = min xs.length ys.length) (hs : n < sizeLine)
    (hR : ∀ H' s' vs, Inv X pins σ H' s' → H' S = some (.lst vs) → NT H' vs (zipC xs ys n) → (∀ c o, c ≠ S → H0 c = some o → H' c = some o) → R (.ok (.ret res)) s') :
    ∀ (k i : Nat) (H : Hp) (s : Shared) (vs : List V), n - i = k → i ≤ n → Inv X pins σ H s → ZSt z TI TO i1 i2 a b i s.heap → H a = some (.tup xs) → H b = some (.tup ys) → H S = some (.lst vs) → NT H vs (zipC xs ys i) → (∀ c o, c ≠ S → H0 c = some o → H c = some o) →
      (∀ c ∈ [z, TI, TO, i1, i2], FpOk X pins H c) → codeAny (model X.prog X.w) A (.builtin "list.extend.loop" ⟨[.ref S, .ref z, res], []⟩) R s := by
  intro k
  induction k with
  | zero =>
    intro i H s vs hk hi I st hqx hqy hS hN hsm hf
    obtain ⟨⟨f0, f, hz, ho⟩, hTI, ⟨x0, y0, hTO⟩, h1, h2⟩ := st
    obtain ⟨its, rv, p, _⟩ := I.tuple (SqT.of hqx)
    obtain ⟨its2, rv2, p2, _⟩ := I.tuple (SqT.of hqy)
    have l1 := rv.length
    have l2 := rv2.length
    obtain rfl : i = n := by omega
    have he : its.toArray[i]? = none ∨ its2.toArray[i]? = none := by
      rcases Nat.le_total xs.length ys.length with q | q
      · exact .inl (by simp; omega)
      · exact .inr (by simp; omega)
    refine codeAny_builtin PySem.F.entry_extend_loop ?_
    rw [Around.under_plainId PySem.F.plain_extend_loop _]
    show wpAny _ A.in1 (pyNext (.ref z) >>= _) _ _ _
    refine wpAny_bind (pyNext_zipV_end (A := A.in1) hh D hz ho hTI hTO h1 h2 p p2 he fun h' hk => ?_)
    refine wpAny_pure (hR H _ vs (I.turnedL (t' := s.toks) (ch := [z, TI, TO, i1, i2]) (fun c o hb q => hk c o (fun q' => hb (by simp [q'])) (fun q' => hb (by simp [q'])) (fun q' => hb (by simp [q'])) (fun q' => hb (by simp [q'])) q) hf) hS hN hsm)
  | succ k ih =>
    intro i H s vs hk hi I st hqx hqy hS hN hsm hf
    have hlt := st.lt
    obtain ⟨⟨f0, f, hz, ho⟩, hTI, ⟨x0, y0, hTO⟩, h1, h2⟩ := id st
    obtain ⟨its, rv, p, _⟩ := I.tuple (SqT.of hqx)
    obtain ⟨its2, rv2, p2, _⟩ := I.tuple (SqT.of hqy)
    have hin : i < n := by omega
    have hx : xs[i]? = some (xs.getD i .non) := by rw [List.getD_eq_getElem?_getD, List.getElem?_eq_getElem (by omega)]; rfl
    have hy : ys[i]? = some (ys.getD i .non) := by rw [List.getD_eq_getElem?_getD, List.getElem?_eq_getElem (by omega)]; rfl
    obtain ⟨u, hu, ru⟩ := rv.get hx
    obtain ⟨u2, hu2, ru2⟩ := rv2.get hy
    refine codeAny_builtin PySem.F.entry_extend_loop ?_
    rw [Around.under_plainId PySem.F.plain_extend_loop _]
    show wpAny _ A.in1 (pyNext (.ref z) >>= _) _ _ _
    refine wpAny_bind (pyNext_zipV_item (A := A.in1) D hz ho hTI hTO h1 h2 p p2 (x := u) (y := u2) (by simpa using hu) (by simpa using hu2) fun h' T f' a' b' z' TO' h1' h2' hT hsz hk' => ?_)
    have new : ObjOk X.prog X.w (upd H s.heap.objs.size (.tup [xs.getD i .non, ys.getD i .non])) h' s.heap.objs.size (.tup [xs.getD i .non, ys.getD i .non]) :=
      ⟨by show 2 ≤ sizeLine; decide, [u, u2], .cons ru (.cons ru2 .nil), ⟨_, hT, rfl, _, rfl⟩⟩
    have I1 : Inv X pins σ (upd H s.heap.objs.size (.tup [xs.getD i .non, ys.getD i .non])) { s with heap := h' } :=
      I.turnedNew (t' := s.toks) (ch := [z, TI, TO, i1, i2]) (fun c o hb q => hk' c o (fun q' => hb (by simp [q'])) (fun q' => hb (by simp [q'])) (fun q' => hb (by simp [q'])) (fun q' => hb (by simp [q'])) q) hf (Nat.le_refl _) new
    have hTn : H s.heap.objs.size = none := I.hok.fresh (Nat.le_refl _)
    have sT := new_at hTn (.tup [xs.getD i .non, ys.getD i .non])
    have hS1 := sT _ _ hS
    have hTS : s.heap.objs.size ≠ S := (ne_of_none hS hTn).symm
    have st1 : ZSt z TI TO i1 i2 a b (i + 1) h' := ⟨⟨_, f', z', .inr ⟨T, rfl⟩⟩, hk' _ _ D.TIz D.TITO D.TIi1 D.TIi2 hTI, ⟨a', b', TO'⟩, h1', h2'⟩
    have hf1 : ∀ c ∈ [z, TI, TO, i1, i2], FpOk X pins (upd H s.heap.objs.size (.tup [xs.getD i .non, ys.getD i .non])) c := fun c hc => fp_at (hf c hc) (by rw [upd_ne (Nat.ne_of_lt (hlt c hc))]; exact (hf c hc).1)
    have hqx1 := sT _ _ hqx
    have hqy1 := sT _ _ hqy
    have hN1 := hN.tups (fun b ys e => sT b _ e)
    have hsm1 : ∀ c o, c ≠ S → H0 c = some o → upd H s.heap.objs.size (.tup [xs.getD i .non, ys.getD i .non]) c = some o := fun c o hc e => sT c o (hsm c o hc e)
    have eT : upd H s.heap.objs.size (.tup [xs.getD i .non, ys.getD i .non]) s.heap.objs.size = some (.tup [xs.getD i .non, ys.getD i .non]) := upd_same
    have hzS : ∀ c ∈ [z, TI, TO, i1, i2], c ≠ S := fun c hc e => by
      have q := (hf c hc).1
      rw [e, hS] at q
      cases q
    generalize upd H s.heap.objs.size (.tup [xs.getD i .non, ys.getD i .non]) = H1 at I1 hS1 hf1 hqx1 hqy1 hN1 hsm1 eT
    obtain ⟨hl, jts, c1, rj, ej⟩ := (show ObjOk X.prog X.w H1 h' S (.lst vs) from I1.hok S _ hS1)
    have hvl : vs.length = i := by rw [hN.1]; unfold zipC; rw [List.length_map, List.length_range]
    have hjl : jts.length = i := by rw [← rj.length, hvl]
    have ej' : h'.get? S = some { cls := .type "list", dict := none, data := .seq jts.toArray c1, slots := #[] } := ej
    show wpAny _ A.in1 (updateSeq S (·.push (Value.ref s.heap.objs.size)) >>= _) _ _ _
    refine wpAny_bind ?_
    have oth : ∀ b o, b ≠ S → h'.get? b = some o → (h'.update S (Obj.mapSeq (·.push (Value.ref s.heap.objs.size)))).get? b = some o := fun b o hb e => (Heap.get?_update_other _ _ (Ne.symm hb)).trans e
    have rT : L2.RelV (V.ref s.heap.objs.size) (Value.ref s.heap.objs.size) := rfl
    have I2 : Inv X pins σ (upd H1 S (.lst (vs ++ [.ref s.heap.objs.size]))) { s with heap := h'.update S (Obj.mapSeq (·.push (Value.ref s.heap.objs.size))) } :=
      I1.lset (t' := s.toks) (its' := jts ++ [.ref s.heap.objs.size]) (f := (·.push (Value.ref s.heap.objs.size))) hS1 ej (by simp) (rj.append (.cons rT .nil)) (by rw [List.length_append]; show vs.length + 1 ≤ _; omega)
    refine wpAny_updateSeq ej' rfl (wpAny_pure ⟨plainId_quiet PySem.F.plain_extend_loop _, ih (i + 1) (upd H1 S (.lst (vs ++ [.ref s.heap.objs.size]))) _ (vs ++ [.ref s.heap.objs.size]) (by omega) hin I2 (st1.keep fun c hc o e => oth c o (hzS c hc) e) ?_ ?_ upd_same ?_ (fun c o hc e => ?_) fun c hc => fp_at (hf1 c hc) ?_⟩) (by simp only [List.size_toArray]; omega) (by simp only [Array.size_push, List.size_toArray]; omega)
    · rw [upd_ne (ne_of hqx1 hS1 (fun z => nomatch z))]
      exact hqx1
    · rw [upd_ne (ne_of hqy1 hS1 (fun z => nomatch z))]
      exact hqy1
    · have e : zipC xs ys (i + 1) = zipC xs ys i ++ [[xs.getD i .non, ys.getD i .non]] := by
        unfold zipC
        rw [List.range_succ, List.map_append]
        rfl
      rw [e]
      refine (hN1.snoc eT).tups fun b ys e => ?_
      rw [upd_ne (ne_of e hS1 (fun z => nomatch z))]
      exact e
    · rw [upd_ne hc]
      exact hsm1 c o hc e
    · rw [upd_ne (hzS c hc)]
      exact (hf1 c hc).1
theorem run_listZip {X : Cx} {pins : List (Addr × Obj)} {σ : L2.St} {H1 : Hp} {s2 : Shared} {Q : VK} (hhd : X.A.handled = none) {z TI TO i1 i2 a b : Addr} {xs ys : List V} (D : ZipApart z TI TO i1 i2 a b) (I2 : Inv X pins σ H1 s2) (st0 : ZSt z TI TO i1 i2 a b 0 s2.heap)
    (fp0 : ∀ c ∈ [z, TI, TO, i1, i2], FpOk X pins H1 c) (hqx : H1 a = some (.tup xs)) (hqy : H1 b = some (.tup ys)) (hsz : min xs.length ys.length < sizeLine)
    (q1 : ∀ (S : Addr) (us : List V) H', H1 S = none → (∀ c o, H1 c = some o → H' c = some o) → H' S = some (.lst us) → NT H' us (zipC xs ys (min xs.length ys.length)) → Q (.ref S) H') :
    wpAny (model X.prog X.w) X.A (call (.type "list") [.ref z]) (EP X pins σ Q) X.xe s2 := by
  obtain ⟨h', g, d, tk, os⟩ := s2
  dsimp only at *
  have ltz := st0.lt
  have hSz : h'.objs.size ≠ z := Nat.ne_of_gt (ltz z (by simp))
  refine callType_codes (s := ⟨h', g, d, tk, os⟩) (Q₁ := fun obj s₁ => obj = .ref h'.objs.size ∧ s₁ = ⟨h'.push { cls := .type "list", data := .seq #[] }, g, d, tk, os⟩) PySem.F.called_list (PySem.F.typeCall_list_1 _) PySem.F.entry_list_init
    (code_list_new _ ⟨rfl, rfl⟩) fun obj s₁ h₁ => ?_
  obtain ⟨rfl, rfl⟩ := h₁
  have hS : (h'.push { cls := .type "list", data := .seq #[] }).get? h'.objs.size = some { cls := .type "list", data := .seq #[] } := Heap.get?_push_size _ rfl
  have hSn : H1 h'.objs.size = none := I2.hok.fresh (Nat.le_refl _)
  have I3 : Inv X pins σ (upd H1 h'.objs.size (.lst [])) ⟨h'.push { cls := .type "list", data := .seq #[] }, g, d, tk, os⟩ := I2.lnew (its := []) (t' := tk) .nil (Nat.zero_le _)
  have k1 : ∀ b o, h'.get? b = some o → (h'.push { cls := .type "list", data := .seq #[] }).get? b = some o := fun b o e => Heap.get?_push_of_some _ e
  have st1 := st0.keep (h' := h'.push { cls := .type "list", data := .seq #[] }) fun c _ o e => k1 c o e
  have kS := new_at hSn (.lst [])
  have hqx1 := kS _ _ hqx
  have hqy1 := kS _ _ hqy
  have fp1 : ∀ c ∈ [z, TI, TO, i1, i2], FpOk X pins (upd H1 h'.objs.size (.lst [])) c := fun c hc => fp_at (fp0 c hc) (by rw [upd_ne (Nat.ne_of_lt (ltz c hc))]; exact (fp0 c hc).1)
  have neS : ∀ c ∈ [z, TI, TO, i1, i2], c ≠ h'.objs.size := fun c hc => Nat.ne_of_lt (ltz c hc)
  refine ⟨⟨_, hS, rfl⟩, PySem.F.args_list_init_2 _ _, ?_⟩
  generalize h'.push { cls := .type "list", data := .seq #[] } = h1 at *
  generalize h'.objs.size = S at *
  show wpAny _ _ (do let old ← Builtin.List.listItems (.ref S); Builtin.List.listUpdate (.ref S) (fun _ => #[]); letGo old.toList.reverse; Builtin.List.listExtendWith (.ref S) (.ref z) .none) _ _ _
  refine wpAny_bind ?_
  unfold Builtin.List.listItems
  refine wpAny_bind (wpAny_seqItems hS rfl (wpAny_pure ?_))
  show wpAny _ _ (updateSeq S (fun _ => #[]) >>= fun _ => letGo (#[] : Array Value).toList.reverse >>= fun _ => Builtin.List.listExtendWith (.ref S) (.ref z) .none) _ _ _
  refine wpAny_bind (wpAny_updateSeq hS rfl ?_)
  have eS : upd H1 S (.lst []) S = some (.lst []) := upd_same
  have uu : upd (upd H1 S (.lst [])) S (.lst []) = upd H1 S (.lst []) := by
    funext c
    by_cases q : c = S
    · rw [q, upd_same, upd_same]
    · rw [upd_ne q]
  have hS2 := Heap.get?_update_self (Obj.mapSeq (fun _ => (#[] : Array Value))) hS rfl
  refine wpAny_bind (wpAny_letGo ?_)
  have I4 := I3.lset (t' := tk) (its := []) (its' := []) (f := fun _ => (#[] : Array Value)) eS hS rfl .nil (Nat.zero_le _)
  rw [uu] at I4
  have st2 := st1.keep (h' := h1.update S (Obj.mapSeq (fun _ => (#[] : Array Value)))) fun c hc o e => (Heap.get?_update_other _ _ (Ne.symm (neS c hc))).trans e
  dsimp only at I4
  generalize h1.update S (Obj.mapSeq (fun _ => (#[] : Array Value))) = h2 at *
  unfold Builtin.List.listExtendWith
  have zty : (⟨h2, g, d, tk, os⟩ : Shared).TypeIs (.ref z) "zip" := by
    obtain ⟨⟨f0, f, hz, _⟩, _⟩ := st2
    exact ⟨_, hz, rfl⟩
  refine wpAny_bind (wpAny_typeOf (T := "zip") zty ?_)
  have b1 : Builtin.List.listSameRef (.ref S) (.ref z) = false := by simp [Builtin.List.listSameRef, hSz]
  have b2 : (Value.type "zip" == Value.type "list") = false := by decide
  have b3 : (Value.type "zip" == Value.type "tuple") = false := by decide
  simp only [b1, b2, b3, Bool.or_false, Bool.false_eq_true, if_false]
  obtain ⟨⟨f0, f, hz, ho⟩, rest⟩ := id st2
  refine wpAny_bind (pyIter_zipV (s := ⟨h2, g, d, tk, os⟩) hz ?_)
  refine wpAny_bind (wpAny_holding ?_)
  unfold Builtin.List.listLengthHint
  refine wpAny_bind (wpAny_specialOf zty zipL_no_len ?_)
  show wpAny _ _ (specialOf (Value.ref z) (Str.ofString "__length_hint__") >>= _) _ _ _
  refine wpAny_bind (wpAny_specialOf zty zipL_no_hint ?_)
  refine wpAny_pure ?_
  show wpAny _ _ (rule "list.extend.makes-room" >>= fun _ => Builtin.List.listTouch (.ref S) >>= fun _ =>
    again (.builtin "list.extend.loop" ⟨[.ref S, .ref z, .none], []⟩)) _ _ _
  refine wpAny_bind (wpAny_rule ?_)
  refine wpAny_bind ?_
  show wpAny _ _ (updateSeq S (·.push .none) >>= fun _ => updateSeq S (·.pop)) _ _ _
  refine wpAny_bind (wpAny_updateSeq hS2 rfl ?_)
  have hS3 := Heap.get?_update_self (Obj.mapSeq (·.push Value.none)) hS2 rfl
  refine wpAny_updateSeq (hz := by seq_fits) hS3 rfl ?_
  have I5 := I4.lset (t' := tk) (its := []) (its' := [.none]) (ys := [V.non]) (f := (·.push Value.none)) eS hS2 rfl (.cons (show RelV V.non Value.none from rfl) .nil) (by show 1 ≤ sizeLine; decide)
  dsimp only at I5
  have I6 := I5.lset (t' := tk) (its := [.none]) (its' := []) (ys := []) (f := (·.pop)) upd_same hS3 rfl .nil (Nat.zero_le _)
  dsimp only at I6
  have uu2 : upd (upd (upd H1 S (.lst [])) S (.lst [V.non])) S (.lst []) = upd H1 S (.lst []) := by
    funext c
    by_cases q : c = S
    · rw [q, upd_same, upd_same]
    · rw [upd_ne q, upd_ne q]
  rw [uu2] at I6
  have st3 := st2.keep (h' := (h2.update S (Obj.mapSeq (·.push Value.none))).update S (Obj.mapSeq (·.pop))) fun c hc o e => (Heap.get?_update_other _ _ (Ne.symm (neS c hc))).trans ((Heap.get?_update_other _ _ (Ne.symm (neS c hc))).trans e)
  refine wpAny_pure ⟨plainId_quiet PySem.F.plain_extend_loop _, ?_⟩
  refine zip_loop (X := X) (A := X.A.in1) (H0 := H1) hhd D (min xs.length ys.length) rfl hsz (fun H' s' vs J e1 e2 e3 => ⟨rfl, .ref S, H', J, rfl, q1 S vs H' hSn (fun c o e => e3 c o (ne_of_none e hSn) e) e1 e2⟩) (min xs.length ys.length) 0 (upd H1 S (.lst [])) _ [] (Nat.sub_zero _) (Nat.zero_le _) I6 st3 hqx1 hqy1 eS (NT.nil _) (fun c o hc e => by rw [upd_ne hc]; exact e) fp1
def tListZip (ta : TA) : TE := fun σ H Q => ta σ H fun vs H1 => ∃ a b xs ys, vs = [.ref a, .ref b] ∧ H1 a = some (.tup xs) ∧ H1 b = some (.tup ys) ∧ min xs.length ys.length < sizeLine ∧
  ∀ (S : Addr) (us : List V) H', H1 S = none → (∀ c o, H1 c = some o → H' c = some o) → H' S = some (.lst us) → NT H' us (zipC xs ys (min xs.length ys.length)) → Q (.ref S) H'
theorem pe_listZip {X : Cx} {e e2 : Expr} {ta : TA} {p p2 q pos : Pos} (hg : Gl X "list") (hm : X.mg "list" = none) (hg2 : Gl X "zip") (hm2 : X.mg "zip" = none) (ha : PA X [e, e2] ta) (hc : X.calm = true := by rfl)
    (hs : starEach [e, e2] X.env = (false, eval e X.env) :: starEach [e2] X.env := by rfl) (hpl : (backTo q (starEach [e2] X.env)).any (·.1) = false := by rfl)
    (hs1 : starEach [Expr.Call (.Name "zip" p2) [e, e2] [] q] X.env = (false, eval (Expr.Call (.Name "zip" p2) [e, e2] [] q) X.env) :: starEach [] X.env := by rfl) :
    PE X (.Call (.Name "list" p) [.Call (.Name "zip" p2) [e, e2] [] q] [] pos) (tListZip ta) := by
  refine ⟨fun pins s σ H Q I h => ?_⟩
  refine Call_ (ld_blt I hg hm PyProof.Rows.boot_list ?_)
  refine PyProof.Rows.callWith_type1 (PyProof.Rows.args_cons ?_ hs1) hs1 rfl
  refine Call_ (ld_blt I hg2 hm2 PyProof.Rows.boot_zip (PyProof.Rows.callWith_type1 (thn (ha.run q pins s σ H _ I h) fun us s1 ⟨vs, H1, I1, r1, q1⟩ => ?_) hs hpl))
  obtain ⟨a, b, xs, ys, ex, hqx, hqy, hsz, q1⟩ := q1
  subst ex
  cases r1 with
  | cons r rr =>
    cases rr with
    | cons r' rr =>
      cases rr
      cases r
      cases r'
      have hhd := I1.ok.hd hc
      obtain ⟨its, rv, p1, _⟩ := I1.tuple (SqT.of hqx)
      obtain ⟨its2, rv2, p2', _⟩ := I1.tuple (SqT.of hqy)
      obtain ⟨o1, ho1, _⟩ := id p1
      obtain ⟨o2, ho2, _⟩ := id p2'
      refine call_zipT (show s1.heap.IsTuple a its.toArray from p1) (show s1.heap.IsTuple b its2.toArray from p2') fun h' hz hTI hTO h1 h2 hsz' hk => ?_
      refine PyProof.Rows.args_nil ?_
      have D := PySem.W.ktu_apart s1.heap.objs.size a b (Heap.lt_size ho1) (Heap.lt_size ho2)
      have st0 : ZSt (s1.heap.objs.size + 4) (s1.heap.objs.size + 2) (s1.heap.objs.size + 3) s1.heap.objs.size (s1.heap.objs.size + 1) a b 0 h' := ⟨⟨.none, false, hz, .inl rfl⟩, hTI, ⟨_, _, hTO⟩, h1, h2⟩
      have fp0 : ∀ c, c ∈ [s1.heap.objs.size + 4, s1.heap.objs.size + 2, s1.heap.objs.size + 3, s1.heap.objs.size, s1.heap.objs.size + 1] → FpOk X pins H1 c := fun c hcm => by
        have e' : c = s1.heap.objs.size + 4 ∨ c = s1.heap.objs.size + 2 ∨ c = s1.heap.objs.size + 3 ∨ c = s1.heap.objs.size ∨ c = s1.heap.objs.size + 1 := by simpa using hcm
        have hle : s1.heap.objs.size ≤ c := by
          rcases e' with z | z | z | z | z
          · rw [z]; exact Nat.le_add_right _ _
          · rw [z]; exact Nat.le_add_right _ _
          · rw [z]; exact Nat.le_add_right _ _
          · rw [z]; exact Nat.le_refl _
          · rw [z]; exact Nat.le_add_right _ _
        exact I1.fpOk hle (I1.hok.fresh hle)
      have I2 : Inv X pins σ H1 { s1 with heap := h' } := I1.kept (t' := s1.toks) hk
      exact run_listZip hhd D I2 st0 fp0 hqx hqy hsz q1
end RZ

set_option Elab.async false
set_option linter.all false
set_option maxRecDepth 100000
set_option maxHeartbeats 2000000
namespace Vf
open PySem PySem.Spec PyProof.Rows L2 L2.Vx Vs Vm Vd
/-! ### the law's own way to see whether one language is within another: by the pairs of states that are met -/
abbrev sWin : Stmt := top 55
abbrev nWin : List Str := ["_law_made", "_law_mate", "_law_met", "_law_waiting", "_law_pair"]
structure TxtWn (mg : Str → Option Value) : Prop where
  list : mg "list" = none
  zip : mg "zip" = none
def pr (p : Nat × Nat) : List V := [nI p.1, nI p.2]
theorem nt_app {H : Hp} : ∀ {vs us : List V} {cs ds : List (List V)}, NT H vs cs → NT H us ds → NT H (vs ++ us) (cs ++ ds) := by
  intro vs us cs ds h g
  refine ⟨by rw [List.length_append, List.length_append, h.1, g.1], fun i v c e1 e2 => ?_⟩
  by_cases z : i < vs.length
  · rw [List.getElem?_append_left z] at e1
    rw [List.getElem?_append_left (by rw [← h.1]; exact z)] at e2
    exact h.2 i v c e1 e2
  · rw [List.getElem?_append_right (by omega)] at e1
    rw [List.getElem?_append_right (by rw [← h.1]; omega), ← h.1] at e2
    exact g.2 _ v c e1 e2
theorem nt_last {H : Hp} {vs : List V} {cs : List (List V)} {c : List V} (h : NT H vs (cs ++ [c])) : ∃ q, vs[vs.length - 1]? = some (V.ref q) ∧ H q = some (.tup c) ∧ NT H vs.dropLast cs := by
  have l := h.1
  rw [List.length_append] at l
  have l1 : ([c] : List (List V)).length = 1 := rfl
  have hv : vs[cs.length]? = some (vs[cs.length]'(by omega)) := List.getElem?_eq_getElem _
  obtain ⟨q, e1, e2⟩ := h.2 cs.length _ c hv (by simp)
  refine ⟨q, by rw [show vs.length - 1 = cs.length by omega, hv, e1], e2, by rw [List.length_dropLast]; omega, fun i v d g1 g2 => ?_⟩
  have hi := (List.getElem?_eq_some_iff.mp g2).1
  rw [List.getElem?_dropLast] at g1
  split at g1
  · exact h.2 i v d g1 (get_app g2)
  · exact nomatch g1
/-- the pairs to which letters lead from a pair -/
def nexts (A B : List (List Nat)) (k : Nat) (p : Nat × Nat) : List (Nat × Nat) := (List.range k).map fun a => (nextOf A a p.1, nextOf B a p.2)
structure Dfs (A B : List (List Nat)) (k : Nat) (eA eB : List Nat) (M L : List (Nat × Nat)) : Prop where
  nd : M.Nodup
  lt : ∀ p, p ∈ M ∨ p ∈ L → p.1 < A.length ∧ p.2 < B.length
  got : ∀ p, p ∈ M ∨ p ∈ L → ∃ w : List Nat, (∀ a ∈ w, a < k) ∧ p = (led A w 0, led B w 0)
  ok : ∀ p ∈ M, p.1 ∈ eA → p.2 ∈ eB
  first : (0, 0) ∈ M ∨ (0, 0) ∈ L
  step : ∀ p ∈ M, ∀ a, a < k → (nextOf A a p.1, nextOf B a p.2) ∈ M ∨ (nextOf A a p.1, nextOf B a p.2) ∈ L
  small : (A.length * B.length - M.length) * (k + 1) + L.length ≤ A.length * B.length * (k + 1) + 1
section
variable {A B : List (List Nat)} {k : Nat} {eA eB : List Nat} {M L : List (Nat × Nat)}
theorem dfs_start (hA : 0 < A.length) (hB : 0 < B.length) : Dfs A B k eA eB [] [(0, 0)] :=
  ⟨List.nodup_nil, (fun p hp => by
    obtain rfl : p = (0, 0) := hp.elim (fun z => nomatch z) List.mem_singleton.mp
    exact ⟨hA, hB⟩), (fun p hp => ⟨[], (fun a h => nomatch h), hp.elim (fun z => nomatch z) List.mem_singleton.mp⟩), (fun p hp => nomatch hp), .inr (List.mem_singleton.mpr rfl), (fun p hp => nomatch hp), Nat.le_refl _⟩
theorem Dfs.few (D : Dfs A B k eA eB M L) : M.length ≤ A.length * B.length := pairs_few2 D.nd fun p hp => D.lt p (.inl hp)
theorem Dfs.old {p : Nat × Nat} (D : Dfs A B k eA eB M (L ++ [p])) (hp : p ∈ M) : Dfs A B k eA eB M L := by
  have back : ∀ q, q ∈ M ∨ q ∈ L → q ∈ M ∨ q ∈ L ++ [p] := fun q h => h.imp id fun z => List.mem_append_left _ z
  have forth : ∀ q, q ∈ M ∨ q ∈ L ++ [p] → q ∈ M ∨ q ∈ L := fun q h => h.elim .inl fun z => (List.mem_append.mp z).elim .inr fun y => .inl (by rw [List.mem_singleton.mp y]; exact hp)
  refine ⟨D.nd, fun q h => D.lt q (back q h), fun q h => D.got q (back q h), D.ok, forth _ D.first, fun q hq a ha => forth _ (D.step q hq a ha), ?_⟩
  have := D.small
  rw [List.length_append] at this
  omega
theorem Dfs.new {p : Nat × Nat} (sA : Square A k) (sB : Square B k) (D : Dfs A B k eA eB M (L ++ [p])) (hp : p ∉ M) (good : p.1 ∈ eA → p.2 ∈ eB) : Dfs A B k eA eB (M ++ [p]) (L ++ nexts A B k p) ∧ M.length + 1 ≤ A.length * B.length := by
  obtain ⟨l1, l2⟩ := D.lt p (.inr (List.mem_append_right _ (List.mem_singleton.mpr rfl)))
  obtain ⟨w, w1, w2⟩ := D.got p (.inr (List.mem_append_right _ (List.mem_singleton.mpr rfl)))
  have nx : ∀ q ∈ nexts A B k p, ∃ a, a < k ∧ q = (nextOf A a p.1, nextOf B a p.2) := fun q hq => by
    obtain ⟨a, ha, e⟩ := List.mem_map.mp hq
    exact ⟨a, List.mem_range.mp ha, e.symm⟩
  have nin : ∀ a, a < k → (nextOf A a p.1, nextOf B a p.2) ∈ nexts A B k p := fun a ha => List.mem_map.mpr ⟨a, List.mem_range.mpr ha, rfl⟩
  have nd' : (M ++ [p]).Nodup := List.nodup_append.mpr ⟨D.nd, by simp, fun a ha b hb e => hp (by rw [List.mem_singleton.mp hb] at e; exact e ▸ ha)⟩
  have up : ∀ q, q ∈ M ∨ q ∈ L ++ [p] → q ∈ M ++ [p] ∨ q ∈ L ++ nexts A B k p := fun q h => h.elim (fun z => .inl (List.mem_append_left _ z)) fun z => (List.mem_append.mp z).elim (fun y => .inr (List.mem_append_left _ y)) fun y => .inl (List.mem_append_right _ y)
  have down : ∀ q, q ∈ M ++ [p] ∨ q ∈ L ++ nexts A B k p → (q ∈ M ∨ q ∈ L ++ [p]) ∨ q ∈ nexts A B k p := fun q h => h.elim (fun z => (List.mem_append.mp z).elim (fun y => .inl (.inl y)) fun y => .inl (.inr (List.mem_append_right _ y))) fun z => (List.mem_append.mp z).elim (fun y => .inl (.inr (List.mem_append_left _ y))) .inr
  have lt' : ∀ q, q ∈ M ++ [p] ∨ q ∈ L ++ nexts A B k p → q.1 < A.length ∧ q.2 < B.length := fun q h => (down q h).elim (D.lt q) fun z => by
    obtain ⟨a, ha, rfl⟩ := nx q z
    exact ⟨next_lt sA ha l1, next_lt sB ha l2⟩
  have fw := pairs_few2 nd' fun q hq => lt' q (.inl hq)
  rw [List.length_append] at fw
  have l3 : ([p] : List (Nat × Nat)).length = 1 := rfl
  refine ⟨⟨nd', lt', fun q h => (down q h).elim (D.got q) fun z => ?_, fun q hq => ?_, up _ D.first, fun q hq a ha => ?_, ?_⟩, by omega⟩
  · obtain ⟨a, ha, rfl⟩ := nx q z
    refine ⟨w ++ [a], fun b hb => (List.mem_append.mp hb).elim (w1 b) fun z => by rw [List.mem_singleton.mp z]; exact ha, ?_⟩
    rw [led_one, led_one, w2]
  · rcases List.mem_append.mp hq with z | z
    · exact D.ok q z
    · rw [List.mem_singleton.mp z]
      exact good
  · rcases List.mem_append.mp hq with z | z
    · exact up _ (D.step q z a ha)
    · rw [List.mem_singleton.mp z]
      exact .inr (List.mem_append_right _ (nin a ha))
  · have sm := D.small
    rw [List.length_append] at sm ⊢
    have e1 : A.length * B.length - M.length = (A.length * B.length - (M.length + 1)) + 1 := by omega
    rw [e1, Nat.add_mul, Nat.one_mul] at sm
    rw [List.length_append, l3]
    have : (nexts A B k p).length = k := by unfold nexts; rw [List.length_map, List.length_range]
    omega
theorem Dfs.done (sA : Square A k) (sB : Square B k) (D : Dfs A B k eA eB M []) : ∀ w : List Nat, (∀ a ∈ w, a < k) → Wd A eA w = true → Wd B eB w = true := by
  have all : ∀ (w : List Nat) (p : Nat × Nat), p ∈ M → (∀ a ∈ w, a < k) → (led A w p.1, led B w p.2) ∈ M := by
    intro w
    induction w with
    | nil => intro p hp _; exact hp
    | cons a w ih =>
      intro p hp hw
      rw [led_cons, led_cons]
      have z := D.step p hp a (hw a (List.mem_cons_self ..))
      exact ih (nextOf A a p.1, nextOf B a p.2) (z.elim id fun y => nomatch y) fun b hb => hw b (List.mem_cons_of_mem _ hb)
  intro w hw h
  have hm := all w (0, 0) (D.first.elim id fun y => nomatch y) hw
  exact decide_eq_true (D.ok _ hm (of_decide_eq_true h))
theorem Dfs.bad (D : Dfs A B k eA eB M L) {p : Nat × Nat} (hp : p ∈ M ∨ p ∈ L) (h1 : p.1 ∈ eA) (h2 : p.2 ∉ eB) : ¬ ∀ w : List Nat, (∀ a ∈ w, a < k) → Wd A eA w = true → Wd B eB w = true := by
  intro h
  obtain ⟨w, w1, rfl⟩ := D.got p hp
  exact h2 (of_decide_eq_true (h w w1 (decide_eq_true h1)))
end
theorem zip_nexts {A B : List (List Nat)} {k : Nat} (sA : Square A k) (sB : Square B k) {p : Nat × Nat} (l1 : p.1 < A.length) (l2 : p.2 < B.length) : RZ.zipC ((rowOf A p.1).map nI) ((rowOf B p.2).map nI) k = (nexts A B k p).map pr := by
  unfold RZ.zipC nexts
  rw [List.map_map]
  refine List.map_congr_left fun a ha => ?_
  have hk := List.mem_range.mp ha
  have e1 : ((rowOf A p.1).map nI)[a]? = some (nI (nextOf A a p.1)) := by
    rw [List.getElem?_map, next_at l1 fun r hr => by rw [sA.wide r hr]; exact hk]
    rfl
  have e2 : ((rowOf B p.2).map nI)[a]? = some (nI (nextOf B a p.2)) := by
    rw [List.getElem?_map, next_at l2 fun r hr => by rw [sB.wide r hr]; exact hk]
    rfl
  rw [List.getD_eq_getElem?_getD, List.getD_eq_getElem?_getD, e1, e2]
  rfl
def spWin : Sp := fun vs H Q _ => ∃ (v v' : V) (A B : List (List Nat)) (eA eB : List Nat) (k : Nat), vs = [v, v'] ∧ MachAt H v A eA ∧ MachAt H v' B eB ∧ Square A k ∧ Square B k ∧ A.length * B.length ≤ 1000 ∧
  ∀ (r : Bool) H', Same H H' → (r = true ↔ ∀ w : List Nat, (∀ i ∈ w, i < k) → Wd A eA w = true → Wd B eB w = true) → Q (.bl r) H'
section
variable {P : Program} {w : World} {K : PySem.W.Frag} {mg : Str → Option Value} {base : Heap}
theorem scWin : FnScope nWin ["_law_made", "_law_mate"] (defScope sWin) := ⟨rfl, rfl, rfl, by decide +kernel, rfl, by decide +kernel, by decide +kernel⟩
theorem ok_win {f : Addr} {fd : FuncData} (F : Fun K "_law_is_within" "_law_is_within" sWin f fd) (T : TxtWn mg) : FnOk P w K mg base CX0 1 f fd ["_law_made", "_law_mate"] spWin := by
  refine F.ok scWin (fun vs H Q E h => ?_) (fun cdv Ar outer s H vs Q E hr h => ?_)
  · obtain ⟨v, v', A, B, eA, eB, k, rfl, _⟩ := h
    rfl
  obtain ⟨v, v', A, B, eA, eB, k, rfl, hA, hB, sA, sB, few, q⟩ := h
  have hu := hu_of hr
  refine ⟨_, (pss_cons (ps_par (i := 2) (j := 3) rfl scWin.nd rfl rfl (by decide) rfl rfl (pa_cons pe_dnewT (pa_cons (pe_lst (pa_cons (pe_tup (pa_cons pe_int (pa_cons pe_int pa_nil))) pa_nil)) pa_nil)) (by rfl))
    (pss_cons (ps_while PassesOwn.never (pt_cmpR (Vd.op_neNil hr.units) (pv 3) (pe_lst pa_nil) (nomark _))
      (pss_cons (ps_set (i := 4) scWin.nd rfl (Or.inl rfl) (pe_bm0 PySem.F.plainAttrs_list PySem.F.slot_list_pop PySem.F.type_list_pop mt_pop (pv 3)))
      (pss_one (ps_if (pt_cmp (pc_dnotin hu (pv 4) (pv 2)))
        (pss_cons (ps_dput hu (pv 2) (pv 4) pe_bl rfl)
        (C8.pss_cut (ps_if (PW.pt (pw_and (pt_cmpR op_in_seq (pe_ix ix_tup (pv 4) pe_int (fun _ _ => rfl)) (pe_ix ix_tup (pv 0) pe_int (fun _ _ => rfl)) (by rfl)) (pw_and1 (pt_cmpR op_notIn_seq (pe_ix ix_tup (pv 4) pe_int (fun _ _ => rfl)) (pe_ix ix_tup (pv 1) pe_int (fun _ _ => rfl)) (by rfl))))) (pss_one (ps_ret pe_bl)) pss_nil)
        (pss_one (ps_expr (pe_bm PySem.F.plainAttrs_list PySem.F.slot_list_extend PySem.F.type_list_extend mt_extend (pv 3) (pa_cons (RZ.pe_listZip (by rfl) T.list (by rfl) T.zip (pa_cons (pe_ix ix_tup (pe_ix ix_tup (pv 0) pe_int (fun _ _ => rfl)) (pe_ix ix_tup (pv 4) pe_int (fun _ _ => rfl)) (fun _ _ => rfl)) (pa_cons (pe_ix ix_tup (pe_ix ix_tup (pv 1) pe_int (fun _ _ => rfl)) (pe_ix ix_tup (pv 4) pe_int (fun _ _ => rfl)) (fun _ _ => rfl)) pa_nil))) pa_nil)))))) pss_nil))))
    (pss_one (ps_ret pe_bl)))), ?_⟩
  obtain ⟨t, vr, ve, rfl, ht, hRA, hEA⟩ := id hA
  obtain ⟨t', vr', ve', rfl, ht', hRB, hEB⟩ := id hB
  obtain ⟨ra, rbs, rfl, hra, hNA⟩ := hRA.at_
  obtain ⟨oa, obs, rfl, hoa, hNB⟩ := hRB.at_
  obtain ⟨ea, rfl, hea⟩ := id hEA
  obtain ⟨eb, rfl, heb⟩ := id hEB
  have at0 : ∀ (x y : V), atI [x, y] 0 = some x := fun x y => atI_nat (j := 0) rfl
  have at1 : ∀ (x y : V), atI [x, y] 1 = some y := fun x y => atI_nat (j := 1) rfl
  refine fun D hD => ⟨(by show 2 ≤ sizeLine; decide), fun t0 ht0 => ⟨(by show 1 ≤ sizeLine; decide), fun lw hlw => ?_⟩⟩
  have z1 := same_new hD (.dT [])
  have z2 := same_new ht0 (.tup [V.int 0, V.int 0])
  have z3 := same_new hlw (.lst [V.ref t0])
  have hlwH : H lw = none := (z1.trans z2).free hlw
  have hDw : D ≠ lw := ne_of_none (z2 _ _ (show upd H D (.dT []) D = some (.dT []) from upd_same)) hlw
  have f1 : upd (upd (upd H D (.dT [])) t0 (.tup [V.int 0, V.int 0])) lw (.lst [V.ref t0]) D = some (.dT (entT [])) := z3 _ _ (z2 _ _ upd_same)
  have f2 : upd (upd (upd H D (.dT [])) t0 (.tup [V.int 0, V.int 0])) lw (.lst [V.ref t0]) lw = some (.lst [V.ref t0]) := upd_same
  have f3 : NT (upd (upd (upd H D (.dT [])) t0 (.tup [V.int 0, V.int 0])) lw (.lst [V.ref t0])) [V.ref t0] ([((0, 0) : Nat × Nat)].map pr) := (NT.nil _).snoc (c := pr (0, 0)) (z3 _ _ upd_same)
  have sm := (z1.trans z2).trans z3
  refine ⟨_, _, rfl, ?_⟩
  show tSeq _ _ _ [some (V.ref t), some (V.ref t'), some (V.ref D), some (V.ref lw), none] _
  generalize upd (upd (upd H D (.dT [])) t0 (.tup [V.int 0, V.int 0])) lw (.lst [V.ref t0]) = H2 at f1 f2 f3 sm ⊢
  clear z1 z2 z3 ht0 hlw
  have putD : ∀ {H2 : Hp} {o : HO}, Same H H2 → Same H (upd H2 D o) := fun s b o e => by
    rw [upd_ne (ne_of_none e hD)]
    exact s b o e
  have putW : ∀ {H2 : Hp} {o : HO}, Same H H2 → Same H (upd H2 lw o) := fun s b o e => by
    rw [upd_ne (ne_of_none e hlwH)]
    exact s b o e
  obtain ⟨W, hW⟩ : ∃ W : Nat → L2.St → Hp → Prop, W = fun m σ H' => ∃ (M L : List (Nat × Nat)) (ws : List V) (v4 : Option V), σ = [some (V.ref t), some (V.ref t'), some (V.ref D), some (V.ref lw), v4] ∧ m = (A.length * B.length - M.length) * (k + 1) + L.length ∧
    H' D = some (.dT (entT M)) ∧ H' lw = some (.lst ws) ∧ NT H' ws (L.map pr) ∧ Dfs A B k eA eB M L ∧ Same H H' := ⟨_, rfl⟩
  refine ⟨W, ⟨_, by rw [hW]; exact ⟨[], [(0, 0)], [V.ref t0], none, rfl, rfl, f1, f2, f3, dfs_start sA.some sB.some, sm⟩⟩, ?_⟩
  clear f1 f2 f3 sm H2
  intro m σ H2 hw
  rw [hW] at hw
  obtain ⟨M, L, ws, v4, rfl, rfl, m1, m2, m3, Df, s2⟩ := hw
  have mf := Df.few
  have ks := sA.thin
  have sl := Df.small
  have cap : A.length * B.length * (k + 1) ≤ 1000 * 101 := Nat.mul_le_mul few (by omega)
  have wl : ws.length = L.length := by rw [m3.1, List.length_map]
  refine ⟨_, rfl, Nat.zero_le _, fun pe hpe => ?_⟩
  have sp := same_new hpe (.lst [])
  refine ⟨lw, pe, ws, rfl, rfl, SqL.of (sp _ _ m2), SqL.of upd_same, _, rfl, ?_⟩
  have m1' := sp _ _ m1
  have m2' := sp _ _ m2
  have m3' := m3.tups (tk_same sp)
  have s2' := s2.trans sp
  generalize upd H2 pe (.lst []) = H3 at m1' m2' m3' s2' ⊢
  clear m1 m2 m3 s2 hpe sp H2
  rcases List.eq_nil_or_concat L with rfl | ⟨L', p, e1⟩
  · obtain rfl := List.length_eq_zero_iff.mp wl
    refine if_fl rfl ?_
    exact q true _ s2' ⟨fun _ => Df.done sA sB, fun _ => rfl⟩
  obtain rfl : L = L' ++ [p] := by simpa using e1
  clear e1
  have wne : (!ws.isEmpty) = true := by
    rcases ws with _ | ⟨x, r⟩
    · rw [List.length_append] at wl
      have : ([p] : List (Nat × Nat)).length = 1 := rfl
      have z : ([] : List V).length = 0 := rfl
      omega
    · rfl
  refine if_tr wne ⟨fun σ H' => ∃ m', m' < (A.length * B.length - M.length) * (k + 1) + (L' ++ [p]).length ∧ W m' σ H', fun _ _ h => h, ?_⟩
  rw [List.map_append] at m3'
  obtain ⟨pq, hq1, hq2, m4⟩ := nt_last (c := pr p) m3'
  refine ⟨_, rfl, .inl ⟨rfl, _, SqL.of m2'⟩, lw, _, _, rfl, rfl, m2', hq1, ?_⟩
  have m5 : upd H3 lw (.lst ws.dropLast) lw = some (.lst ws.dropLast) := upd_same
  have m1'' := (upd_ne (o := .lst ws.dropLast) hDw).trans m1'
  have tkw := tk_put m2' (.lst ws.dropLast)
  have m4' := m4.tups tkw
  have hq2' := tkw _ _ hq2
  have s3 := putW (o := .lst ws.dropLast) s2'
  generalize upd H3 lw (.lst ws.dropLast) = H4 at m5 m1'' m4' hq2' s3 ⊢
  clear m1' m2' m3' s2' m4 hq2 tkw H3
  refine ⟨_, rfl, _, rfl, D, _, rfl, get_pair (p := p) m1'' hq2', _, rfl, ?_⟩
  by_cases c : p ∈ M
  · refine if_fl (by rw [if_pos c]; rfl) ?_
    refine ⟨_, ?_, by rw [hW]; exact ⟨M, L', ws.dropLast, _, rfl, rfl, m1'', m5, m4', Df.old c, s3⟩⟩
    rw [List.length_append]
    have : ([p] : List (Nat × Nat)).length = 1 := rfl
    omega
  refine if_tr (by rw [if_neg c]; rfl) ?_
  obtain ⟨l1, l2⟩ := Df.lt p (.inr (List.mem_append_right _ (List.mem_singleton.mpr rfl)))
  have dp := put_pair (p := p) m1'' hq2' (by rw [sizeLine_eq]; omega)
  have ea1 : addT M p = M ++ [p] := if_neg c
  rw [ea1] at dp
  refine ⟨_, rfl, _, rfl, D, _, rfl, dp, ?_⟩
  have n1 : upd H4 D (.dT (entT (M ++ [p]))) D = some (.dT (entT (M ++ [p]))) := upd_same
  have n2 := (upd_ne (o := .dT (entT (M ++ [p]))) hDw.symm).trans m5
  have tkD := tk_dT m1'' (.dT (entT (M ++ [p])))
  have n3 := m4'.tups tkD
  have n4 := tkD _ _ hq2'
  have s4 := putD (o := .dT (entT (M ++ [p]))) s3
  generalize upd H4 D (.dT (entT (M ++ [p]))) = H5 at n1 n2 n3 n4 s4 ⊢
  clear m1'' m5 m4' hq2' s3 dp tkD H4
  refine ⟨fun σ' H' => σ' = [some (V.ref t), some (V.ref t'), some (V.ref D), some (V.ref lw), some (V.ref pq)] ∧ H' = H5 ∧ (p.1 ∈ eA → p.2 ∈ eB), ?_, ?_⟩
  · refine ⟨_, rfl, pq, _, _, _, rfl, rfl, SqT.of n4, at0 _ _, _, rfl, t, _, _, _, rfl, rfl, SqT.of (s4 _ _ ht), at1 _ _, ea, _, rfl, .inr (SqT.of (s4 _ _ hea)), rfl, flat_nI eA, _, rfl, ?_⟩
    rw [if_neg Bool.false_ne_true, inV_nI]
    by_cases h1 : p.1 ∈ eA
    rotate_left
    · refine if_fl (decide_eq_false h1) (if_fl rfl ⟨rfl, rfl, fun z => absurd z h1⟩)
    refine if_tr (decide_eq_true h1) ?_
    refine ⟨_, rfl, pq, _, _, _, rfl, rfl, SqT.of n4, at1 _ _, _, rfl, t', _, _, _, rfl, rfl, SqT.of (s4 _ _ ht'), at1 _ _, eb, _, rfl, .inr (SqT.of (s4 _ _ heb)), rfl, flat_nI eB, _, rfl, ?_⟩
    rw [if_pos rfl, inV_nI]
    by_cases h2 : p.2 ∈ eB
    · exact if_fl (by rw [decide_eq_true h2]; rfl) ⟨rfl, rfl, fun _ => h2⟩
    · refine if_tr (by rw [decide_eq_false h2]; rfl) ?_
      exact q false _ s4 ⟨fun z => (nomatch z), fun z => absurd z (Df.bad (.inr (List.mem_append_right _ (List.mem_singleton.mpr rfl))) h1 h2)⟩
  rintro σ' H6 ⟨rfl, rfl, good⟩
  obtain ⟨Dn, fw⟩ := Df.new sA sB c good
  obtain ⟨b1, hb1, hb2⟩ := hNA.get l1
  obtain ⟨b2, hb3, hb4⟩ := hNB.get l2
  have w1 := width sA l1
  have w2 := width sB l2
  have mk : min ((rowOf A p.1).map nI).length ((rowOf B p.2).map nI).length = k := by rw [List.length_map, List.length_map, w1, w2, Nat.min_self]
  refine ⟨_, rfl, .inl ⟨rfl, _, SqL.of n2⟩, ?_⟩
  refine ⟨_, rfl, t, _, _, _, rfl, rfl, SqT.of (s4 _ _ ht), at0 _ _, _, rfl, pq, _, _, _, rfl, rfl, SqT.of n4, at0 _ _, ra, rbs, _, .ref b1, rfl, rfl, SqT.of (s4 _ _ hra), atI_nat hb1, _, rfl, t', _, _, _, rfl, rfl, SqT.of (s4 _ _ ht'), at0 _ _, _, rfl, pq, _, _, _, rfl, rfl, SqT.of n4, at1 _ _, oa, obs, _, .ref b2, rfl, rfl, SqT.of (s4 _ _ hoa), atI_nat hb3, ?_⟩
  refine ⟨b1, b2, _, _, rfl, s4 _ _ hb2, s4 _ _ hb4, by rw [mk, sizeLine_eq]; omega, fun S us H7 hS s7 eS hN => ?_⟩
  rw [mk, zip_nexts sA sB l1 l2] at hN
  have n2' := s7 _ _ n2
  rw [List.length_append] at wl
  have ul : us.length = (nexts A B k p).length := by rw [hN.1, List.length_map]
  have dl : ws.dropLast.length = L'.length := by rw [List.length_dropLast, wl]; rfl
  have ns : (nexts A B k p).length = k := by unfold nexts; rw [List.length_map, List.length_range]
  have e3 : (L' ++ nexts A B k p).length = L'.length + k := by rw [List.length_append, ns]
  have e4 : (L' ++ [p]).length = L'.length + 1 := by rw [List.length_append]; rfl
  have sl' := Nat.le_trans (Nat.le_add_left _ _) Dn.small
  rw [e3] at sl'
  have szl : L'.length + k ≤ sizeLine := Nat.le_trans sl' (Nat.le_trans (Nat.succ_le_succ cap) (by decide))
  refine ⟨lw, S, _, _, rfl, rfl, n2', eS, by rw [dl, ul, ns]; exact szl, ?_⟩
  have tkw := tk_put n2' (.lst (ws.dropLast ++ us))
  have e1 : A.length * B.length - M.length = (A.length * B.length - (M ++ [p]).length) + 1 := by
    rw [List.length_append]
    have : ([p] : List (Nat × Nat)).length = 1 := rfl
    omega
  refine ⟨_, ?_, by
    rw [hW]
    refine ⟨M ++ [p], L' ++ nexts A B k p, ws.dropLast ++ us, _, rfl, rfl, by rw [upd_ne hDw]; exact s7 _ _ n1, upd_same, ?_, Dn, putW (s4.trans s7)⟩
    rw [List.map_append]
    exact nt_app ((n3.tups (tk_same s7)).tups tkw) (hN.tups tkw)⟩
  rw [e3, e4, e1, Nat.add_mul, Nat.one_mul]
  generalize (A.length * B.length - (M ++ [p]).length) * (k + 1) = X
  omega
end
end Vf

set_option Elab.async false
set_option linter.all false
set_option maxRecDepth 100000
set_option maxHeartbeats 4000000
namespace Vf
open PySem PySem.Spec PyProof.Rows L2 L2.Vx Vs
/-! ### a drawn machine -/
abbrev sMach : Stmt := top 50
def natsDD (ns : List Nat) : PyData := .tuple (ns.map fun n : Nat => .int (n : Int))
def rowsDD (rows : List (List Nat)) : PyData := .tuple (rows.map natsDD)
theorem dtA_of {H : Hp} {S : Addr → Prop} : ∀ {vs : List V} {ds : List PyData}, vs.length = ds.length → (∀ (i : Nat) (v : V) (d : PyData), vs[i]? = some v → ds[i]? = some d → Dt H S v d) → DtAll H S vs ds
  | [], [], _, _ => .nil
  | v :: r, d :: t, h, k => .cons (k 0 v d rfl rfl) (dtA_of (Nat.succ.inj h) fun i v d h1 h2 => k (i + 1) v d h1 h2)
theorem dt_nats {H : Hp} {S : Addr → Prop} {a : Addr} {ns : List Nat} (e : H a = some (.tup (ns.map nI))) (s : S a) : Dt H S (.ref a) (natsDD ns) := by
  refine .tup e s (dtA_of (by rw [List.length_map, List.length_map]) fun i v d h1 h2 => ?_)
  rw [List.getElem?_map] at h1 h2
  obtain ⟨n, hn, rfl⟩ := Option.map_eq_some_iff.mp h1
  rw [hn] at h2
  cases h2
  exact .flat rfl
def spMach (K : PySem.W.Frag) : Sp := fun vs H Q _ => ∃ (d g : Addr) (a : Str) (m : Nat), vs = [.ref d, .str a, nI m] ∧ 0 < m ∧ m ≤ 100 ∧ a.length ≤ 4 ∧ DeckAt H d g ∧
  ∀ (t : Addr) (v e : V) (rows : List (List Nat)) (ends : List Nat) (H' : Hp), H' t = some (.tup [v, e]) → (t ≠ d ∧ t ≠ g) → Dt H' (fun a => a ≠ d ∧ a ≠ g) v (rowsDD rows) → Dt H' (fun a => a ≠ d ∧ a ≠ g) e (natsDD ends) → RowsAt K H' v rows → Square rows (cp a).length → 0 < rows.length → rows.length ≤ m → TupN K H' e ends → (∀ x ∈ ends, x < rows.length) → ends.Pairwise (· < ·) → DeckAt H' d g → Keeps d g H H' → Q (.ref t) H'
abbrev nMach : List Str := ["_law_deck_here", "_law_signs_here", "_law_size", "_law_far_here", "_law_lines", "_law_k", "_law_sign"]
abbrev scInM : Scope := { kind := .function, names := [(".0", .local), ("_law_k", .local), ("tuple", .globalImplicit), ("_law_deck_here", .cell), ("_law_far_here", .cell), ("_law_signs_here", .cell)], isGenerator := false, isCoroutine := false, more := [] }
structure TxtMa (mg : Str → Option Value) (fW : Addr) : Prop where
  draw : mg "_law_draw" = some (.ref fW)
  range : mg "range" = none
  tuple : mg "tuple" = none
section
variable {P : Program} {w : World} {K : PySem.W.Frag} {mg : Str → Option Value} {base : Heap}
theorem scMach : FnScope nMach ["_law_deck_here", "_law_signs_here", "_law_size"] (defScope sMach) := ⟨rfl, rfl, rfl, by decide +kernel, rfl, by decide +kernel, by decide +kernel⟩
theorem ok_mach {f fW : Addr} {fd fdW : FuncData} (F : Fun K "_law_machine" "_law_machine" sMach f fd)
    (GW : FnOk P w K mg base CX0 1 fW fdW ["_law_deck_here", "_law_below"] spDraw) (bW : Binds K fdW ["_law_deck_here", "_law_below"] []) (kW : PySem.W.keepIn K (.ref fW) = true) (T : TxtMa mg fW) :
    FnOk P w K mg base CX0 2 f fd ["_law_deck_here", "_law_signs_here", "_law_size"] (spMach K) := by
  refine F.ok scMach (fun vs H Q E h => ?_) (fun cdv A outer s H vs Q E hr h => ?_)
  · obtain ⟨d, g, a, m, rfl, _⟩ := h
    rfl
  obtain ⟨d, g, a, m, rfl, hm, hm', ha, hD, q⟩ := h
  refine ⟨_, pss_cons (ps_set (i := 3) scMach.nd rfl (Or.inr rfl) (pe_op op_add pe_int (pe_call GW hr rfl T.draw kW bW .nil pass0 (pa_cons (pv 0) (pa_cons (pv 2) pa_nil)))))
    (pss_cons (ps_set (i := 4) scMach.nd rfl (Or.inl rfl) (pe_callTy call_tuple_of (by rfl) T.tuple (by decide +kernel) (pa_cons (pe_lc (own := [("_law_k", 5)]) (g := gName 5) (tt := tYes) rfl scMach.nd (pi_range1 rfl T.range (pa_cons (pv 3) pa_nil))
        (blkOk_by (N := nMach) (sc := defScope sMach) (by decide +kernel)) (fun _ _ _ _ _ => pg_name (i := 5) scMach.nd rfl (Or.inl rfl)) (fun _ _ _ _ _ => pts_nil)
        (fun _ _ _ _ _ => by exact pe_callTy (tupOf_at (K := K) rfl) (by rfl) T.tuple (by decide +kernel) (pa_cons (pe_lc (own := [("_law_sign", 6)]) (g := gName 6) (tt := tYes) rfl scMach.nd (pi_str (pv 1))
          (blkOk_by (N := nMach) (sc := scInM) (by decide +kernel)) (fun _ _ _ _ _ => pg_name (i := 6) scMach.nd rfl (Or.inl rfl)) (fun _ _ _ _ _ => pts_nil)
          (fun _ _ _ _ _ => by exact pe_call GW hr rfl T.draw kW bW .nil pass0 (pa_cons (pv 0) (pa_cons (pv 3) pa_nil)))) pa_nil))) pa_nil)))
    (pss_one (ps_ret (pe_tup (pa_cons (pv 4) (pa_cons (pe_callTy call_tuple_of (by rfl) T.tuple (by decide +kernel) (pa_cons (pe_lc (own := [("_law_k", 5)]) (g := gName 5) rfl scMach.nd (pi_range1 rfl T.range (pa_cons (pv 3) pa_nil))
        (blkOk_by (N := nMach) (sc := defScope sMach) (by decide +kernel)) (fun _ _ _ _ _ => pg_name (i := 5) scMach.nd rfl (Or.inl rfl))
        (fun _ _ _ _ _ => by exact pts_one (pt_cmpR op_eq (pe_call GW hr rfl T.draw kW bW .nil pass0 (pa_cons (pv 0) (pa_cons pe_int pa_nil))) pe_int (nomark _))) (fun _ _ _ _ _ => by exact pv 5)) pa_nil)) pa_nil)))))), ?_⟩
  refine ⟨_, rfl, _, rfl, d, g, (m : Int), rfl, by omega, by omega, hD, fun r0 H1 h0 h1 hD1 k1 => ⟨_, _, rfl, rfl, ?_⟩⟩
  obtain ⟨k, rfl⟩ := Int.eq_ofNat_of_zero_le h0
  have hk : k < m := by omega
  have eN : ((1 : Int) + (k : Int)).toNat = k + 1 := by omega
  refine ⟨_, rfl, (1 + (k : Int)), rfl, by omega, by omega, fun D hDn => ?_⟩
  have dD := hD1.dn hDn
  refine lc_range (lo := 0) (n := ((1 : Int) + (k : Int)).toNat) (fun i H' => ∃ (ts : List Addr) (rows : List (List Nat)), H' D = some (.lst (ts.map V.ref)) ∧ ts.length = i ∧ rows.length = i ∧ (∀ (j : Nat) (t : Addr) (r : List Nat), ts[j]? = some t → rows[j]? = some r → H' t = some (.tup (r.map nI)) ∧ t ≠ d ∧ t ≠ g) ∧ (∀ r ∈ rows, r.length = (cp a).length ∧ ∀ x ∈ r, x < k + 1) ∧ DeckAt H' d g ∧ Keeps d g H1 H')
    ⟨[], [], upd_same, rfl, rfl, (fun j t r h => by simp at h), (fun _ h => nomatch h), hD1.other dD.1 dD.2 _, Keeps.of (same_new hDn _)⟩ ?_ ?_
  · rintro i H2 hi ⟨ts, rows, m1, m2, m3, m4, m5, hD2, k2⟩
    refine ⟨rfl, _, rfl, a, rfl, fun D2 hD2n => ?_⟩
    have dD2 := hD2.dn hD2n
    refine lc_it walk_str (fun j H' => ∃ r : List Nat, H' D2 = some (.lst (r.map nI)) ∧ r.length = j ∧ (∀ x ∈ r, x < k + 1) ∧ DeckAt H' d g ∧ Keeps d g H2 H') ⟨[], upd_same, rfl, (fun _ h => nomatch h), hD2.other dD2.1 dD2.2 _, Keeps.of (same_new hD2n _)⟩ (fun _ _ _ _ => trivial) ?_ ?_
    · rintro j y H5 H6 hj ⟨r, r1, r2, r3, hD5, k5⟩ ⟨rfl, c, hc, rfl⟩
      refine ⟨rfl, _, rfl, _, rfl, d, g, 1 + (k : Int), rfl, by omega, by omega, hD5, fun x H7 x0 x1 hD7 k7 => ?_⟩
      obtain ⟨x, rfl⟩ := Int.eq_ofNat_of_zero_le x0
      refine ⟨_, k7 _ _ dD2.1 dD2.2 r1, ?_, r ++ [x], ?_, by rw [List.length_append, r2]; rfl, fun z hz => ?_, hD7.other dD2.1 dD2.2 _, fun b o n1 n2 e => ?_⟩
      · rw [List.length_map, r2]
        have : a.cps.size ≤ 4 := ha
        exact Nat.lt_of_lt_of_le (show j < 4 by omega) (by decide)
      · rw [upd_same, List.map_append]
        rfl
      · rcases List.mem_append.mp hz with q1 | q1
        · exact r3 z q1
        · obtain rfl : z = x := List.mem_singleton.mp q1
          omega
      · rw [upd_ne (ne_of_none e hD2n)]
        exact k7 b o n1 n2 (k5 b o n1 n2 e)
    · rintro H5 ⟨r, r1, r2, r3, hD5, k5⟩
      refine ⟨D2, _, rfl, .inl ⟨SqL.of r1, fun t ht => ?_⟩⟩
      have dt := hD5.dn ht
      have mD : H5 D = some (.lst (ts.map V.ref)) := k5 _ _ dD.1 dD.2 m1
      have sT := same_new ht (.tup (r.map nI))
      have htD : D ≠ t := ne_of_none mD ht
      refine ⟨_, sT _ _ mD, ?_, ts ++ [t], rows ++ [r], by rw [upd_same, List.map_append]; rfl, by rw [List.length_append, m2]; rfl, by rw [List.length_append, m3]; rfl, fun j u r' h1 h2 => ?_, fun r' hr' => ?_, (hD5.other dt.1 dt.2 _).other dD.1 dD.2 _, fun b o n1 n2 e => ?_⟩
      · rw [List.length_map, m2]
        exact Nat.lt_of_lt_of_le (show i < 101 by omega) (by decide)
      · rcases Nat.lt_or_ge j ts.length with c | c
        · rw [List.getElem?_append_left c] at h1
          rw [List.getElem?_append_left (by omega)] at h2
          obtain ⟨w1, w2, w3⟩ := m4 j u r' h1 h2
          have w4 := sT _ _ (k5 _ _ w2 w3 w1)
          refine ⟨?_, w2, w3⟩
          rw [upd_ne (ne_of w4 (sT _ _ mD) (by intro z; cases z))]
          exact w4
        · have c0 : j = ts.length := by
            have := (List.getElem?_eq_some_iff.mp h1).1
            rw [List.length_append] at this
            have : j < ts.length + 1 := this
            omega
          subst c0
          rw [List.getElem?_append_right (Nat.le_refl _), Nat.sub_self] at h1
          rw [List.getElem?_append_right (by omega), m2, m3, Nat.sub_self] at h2
          obtain rfl : t = u := Option.some.inj h1
          obtain rfl : r = r' := Option.some.inj h2
          refine ⟨?_, dt.1, dt.2⟩
          rw [upd_ne htD.symm, upd_same]
      · rcases List.mem_append.mp hr' with q1 | q1
        · exact m5 r' q1
        · obtain rfl : r' = r := List.mem_singleton.mp q1
          exact ⟨by rw [r2, Array.length_toList], r3⟩
      · rw [upd_ne (ne_of_none e hDn)]
        exact sT _ _ (k5 b o n1 n2 (k2 b o n1 n2 e))
  · rintro H2 ⟨ts, rows, m1, m2, m3, m4, m5, hD2, k2⟩
    rw [eN] at m2 m3
    refine ⟨D, _, rfl, .inl ⟨SqL.of m1, fun tl htl => ?_⟩⟩
    have st := same_new htl (.tup (ts.map V.ref))
    have dl := hD2.dn htl
    have e0 : upd H2 tl (.tup (ts.map V.ref)) tl = some (.tup (ts.map V.ref)) := upd_same
    have m4' := fun (j : Nat) (t : Addr) (r : List Nat) h1 h2 => (And.intro (st _ _ (m4 j t r h1 h2).1) (m4 j t r h1 h2).2)
    have hD3 := hD2.same st
    have k3 := k2.trans (Keeps.of (d := d) (g := g) st)
    show gName 4 _ _ (upd H2 tl (.tup (ts.map V.ref))) _
    generalize upd H2 tl (.tup (ts.map V.ref)) = H3 at e0 m4' hD3 k3 ⊢
    clear st m4 hD2 k2 htl m1
    refine ⟨_, rfl, _, rfl, (1 + (k : Int)), rfl, by omega, by omega, fun D3 hD3n => ?_⟩
    have d3 := hD3.dn hD3n
    refine lc_range (lo := 0) (n := ((1 : Int) + (k : Int)).toNat) (fun i H' => ∃ es : List Nat, H' D3 = some (.lst (es.map nI)) ∧ (∀ x ∈ es, x < i) ∧ es.Pairwise (· < ·) ∧ es.length ≤ i ∧ DeckAt H' d g ∧ Keeps d g H3 H')
      ⟨[], upd_same, (fun _ h => nomatch h), List.Pairwise.nil, Nat.le_refl _, hD3.other d3.1 d3.2 _, Keeps.of (same_new hD3n _)⟩ ?_ ?_
    · rintro i H4 hi ⟨es, n1, n2, n3, n4, hD4, k4⟩
      refine ⟨rfl, _, rfl, d, g, 3, rfl, by decide, by decide, hD4, fun x H5 x0 x1 hD5 k5 => ⟨rfl, _, rfl, ?_⟩⟩
      have n1' := k5 _ _ d3.1 d3.2 n1
      refine ite2 (fun c => ⟨_, rfl, _, n1', ?_, es ++ [i], ?_, fun x hx => ?_, ?_, ?_, hD5.other d3.1 d3.2 _, fun b o a1 a2 e => ?_⟩) (fun c => ⟨es, n1', fun x hx => Nat.lt_succ_of_lt (n2 x hx), n3, Nat.le_succ_of_le n4, hD5, k4.trans k5⟩)
      · rw [List.length_map]
        exact Nat.lt_of_le_of_lt n4 (Nat.lt_of_lt_of_le (show i < 101 by omega) (by decide))
      · rw [upd_same, List.map_append]
        show some (HO.lst (es.map nI ++ [V.int (0 + (i : Nat))])) = _
        rw [Int.zero_add]
        rfl
      · rcases List.mem_append.mp hx with q1 | q1
        · exact Nat.lt_succ_of_lt (n2 x q1)
        · obtain rfl : x = i := List.mem_singleton.mp q1
          exact Nat.lt_succ_self _
      · refine List.pairwise_append.mpr ⟨n3, List.pairwise_singleton _ _, fun x hx y hy => ?_⟩
        obtain rfl : y = i := List.mem_singleton.mp hy
        exact n2 x hx
      · rw [List.length_append]
        exact Nat.succ_le_succ n4
      · rw [upd_ne (ne_of_none e hD3n)]
        exact k5 b o a1 a2 (k4 b o a1 a2 e)
    · rintro H5 ⟨es, n1, n2, n3, n4, hD5, k5⟩
      rw [eN] at n2
      refine ⟨D3, _, rfl, .inl ⟨SqL.of n1, fun te hte => ⟨(by show 2 ≤ sizeLine; decide), fun t ht => ?_⟩⟩⟩
      have s7 := same_new hte (.tup (es.map nI))
      have s8 := same_new ht (.tup [.ref tl, .ref te])
      have kk : Keeps d g H3 _ := k5.trans (Keeps.of (s7.trans s8))
      refine q t (.ref tl) (.ref te) rows es _ upd_same (((hD5.same s7).dn ht)) (.tup (kk _ _ dl.1 dl.2 e0) dl (dtA_of (by rw [List.length_map, List.length_map, m2, m3]) fun j b D h1 h2 => ?_)) (dt_nats (s8 _ _ upd_same) (hD5.dn hte)) ⟨tl, ts.map V.ref, rfl, SqT.of (kk _ _ dl.1 dl.2 e0), by rw [List.length_map, m2, m3], fun j b r h1 h2 => ?_⟩ ⟨by omega, by omega, fun r hr => (m5 r hr).1, by rw [Array.length_toList]; exact Nat.le_trans ha (by decide), fun r hr x hx => by rw [m3]; exact (m5 r hr).2 x hx⟩ (by omega) (by omega) ⟨te, rfl, SqT.of (s8 _ _ upd_same)⟩ (fun x hx => by rw [m3]; exact n2 x hx) n3 (hD5.same (s7.trans s8)) (k1.trans (k3.trans kk))
      · rw [List.getElem?_map] at h1 h2
        obtain ⟨u, hu', rfl⟩ := Option.map_eq_some_iff.mp h1
        obtain ⟨r, hr', rfl⟩ := Option.map_eq_some_iff.mp h2
        obtain ⟨w1, w2, w3⟩ := m4' j u r hu' hr'
        exact dt_nats (kk _ _ w2 w3 w1) ⟨w2, w3⟩
      rw [List.getElem?_map] at h1
      obtain ⟨u, hu', rfl⟩ := Option.map_eq_some_iff.mp h1
      obtain ⟨w1, w2, w3⟩ := m4' j u r hu' h2
      exact ⟨u, rfl, SqT.of (kk _ _ w2 w3 w1)⟩
end
end Vf

set_option Elab.async false
set_option linter.all false
set_option maxRecDepth 100000
set_option maxHeartbeats 8000000
namespace Vf
open PySem PySem.Spec PyProof.Rows L2 L2.Vx Vs Vm Vd Mt
/-! ### right -/
abbrev sRi : Stmt := top 60
abbrev nRi : List Str := ["_law_deck_here", "_law_signs_here", "_law_parts", "_law_k", "_law_codes", "_law_seen", "_law_j", "_law_further", "_law_more", "_law_word", "_law_made", "_law_code", "_law_chr_now"]
structure TxtRi (K : PySem.W.Frag) (mg : Str → Option Value) (C fS fM fTr fRu fW fRf : Addr) : Prop extends TxtLq K mg C where
  signs : mg "_law_signs" = some (.ref fS)
  mach : mg "_law_machine" = some (.ref fM)
  texts : mg "_law_texts_right" = some (.ref fTr)
  rules : mg "_law_rules_right" = some (.ref fRu)
  within : mg "_law_is_within" = some (.ref fW)
  refused : mg "_law_refused" = some (.ref fRf)
  range : mg "range" = none
  rep : mg "repr" = none
  str : mg "str" = none
  ne : PySem.W.findIn K (.ref C) "__ne__" = some (some (.builtin "object.__ne__"))
abbrev MA := List (List Nat) × List Nat
def PartsAt (H : Hp) (a : Str) (vs : List V) (ms : List MA) : Prop := vs.length = ms.length ∧ ∀ (i : Nat) (v : V) (m : MA), vs[i]? = some v → ms[i]? = some m → MachAt H v m.1 m.2 ∧ Mach m.1 a.length m.2 ∧ m.1.length ≤ 4
theorem PartsAt.tk {H H' : Hp} {a : Str} {vs : List V} {ms : List MA} (h : PartsAt H a vs ms) (s : TK H H') : PartsAt H' a vs ms := ⟨h.1, fun i v m e1 e2 => let ⟨x, y⟩ := h.2 i v m e1 e2; ⟨x.tk s, y⟩⟩
theorem PartsAt.snoc {H : Hp} {a : Str} {vs : List V} {ms : List MA} {v : V} {m : MA} (h : PartsAt H a vs ms) (h1 : MachAt H v m.1 m.2) (h2 : Mach m.1 a.length m.2) (h3 : m.1.length ≤ 4) : PartsAt H a (vs ++ [v]) (ms ++ [m]) := by
  refine ⟨by rw [List.length_append, List.length_append, h.1]; rfl, fun i b p' e1 e2 => ?_⟩
  rcases Nat.lt_trichotomy i vs.length with z | z | z
  · rw [List.getElem?_append_left z] at e1
    rw [List.getElem?_append_left (by rw [← h.1]; exact z)] at e2
    exact h.2 i b p' e1 e2
  · subst z
    have e1' : some v = some b := by simpa using e1
    have e2' : some m = some p' := by rw [h.1] at e2; simpa using e2
    obtain rfl := Option.some.inj e1'
    obtain rfl := Option.some.inj e2'
    exact ⟨h1, h2, h3⟩
  · have := (List.getElem?_eq_some_iff.mp e1).1
    rw [List.length_append] at this
    have : ([v] : List V).length = 1 := rfl
    omega
/-- a code: where it is, its rows and ends -/
abbrev CA := Addr × List (List Nat) × List Nat
def CodesAt (C : Addr) (H : Hp) (a : Str) (cs : List CA) (ms : List MA) : Prop := cs.length = ms.length ∧ ∀ (i : Nat) (c : CA) (m : MA), cs[i]? = some c → ms[i]? = some m → LG C H c.1 a c.2.1 c.2.2 ∧ (∀ w : List Nat, (∀ j ∈ w, j < a.length) → Wd c.2.1 c.2.2 w = Wd m.1 m.2 w) ∧ c.2.1.length ≤ 4
theorem CodesAt.same {C : Addr} {H H' : Hp} {a : Str} {cs : List CA} {ms : List MA} (h : CodesAt C H a cs ms) (s : Same H H') : CodesAt C H' a cs ms := ⟨h.1, fun i v m e1 e2 => let ⟨x, y⟩ := h.2 i v m e1 e2; ⟨x.same s, y⟩⟩
theorem CodesAt.snoc {C : Addr} {H : Hp} {a : Str} {cs : List CA} {ms : List MA} {c : CA} {m : MA} (h : CodesAt C H a cs ms) (h1 : LG C H c.1 a c.2.1 c.2.2) (h2 : ∀ w : List Nat, (∀ j ∈ w, j < a.length) → Wd c.2.1 c.2.2 w = Wd m.1 m.2 w) (h3 : c.2.1.length ≤ 4) : CodesAt C H a (cs ++ [c]) (ms ++ [m]) := by
  refine ⟨by rw [List.length_append, List.length_append, h.1]; rfl, fun i b p' e1 e2 => ?_⟩
  rcases Nat.lt_trichotomy i cs.length with z | z | z
  · rw [List.getElem?_append_left z] at e1
    rw [List.getElem?_append_left (by rw [← h.1]; exact z)] at e2
    exact h.2 i b p' e1 e2
  · subst z
    have e1' : some c = some b := by simpa using e1
    have e2' : some m = some p' := by rw [h.1] at e2; simpa using e2
    obtain rfl := Option.some.inj e1'
    obtain rfl := Option.some.inj e2'
    exact ⟨h1, h2, h3⟩
  · have := (List.getElem?_eq_some_iff.mp e1).1
    rw [List.length_append] at this
    have : ([c] : List CA).length = 1 := rfl
    omega
theorem LG.put {C : Addr} {H : Hp} {p D : Addr} {a : Str} {A : List (List Nat)} {e : List Nat} {l : List V} {o : HO} (hD : H D = some (.lst l)) (h : LG C H p a A e) : LG C (upd H D o) p a A e := by
  obtain ⟨⟨dx, vr, ve, h1, h2, h3⟩, h4⟩ := h
  refine ⟨⟨dx, vr, ve, ?_, h2.tk (tk_put hD o), h3.tk (tk_put hD o)⟩, h4⟩
  rw [upd_ne (ne_of h1 hD (fun z => nomatch z))]
  exact h1
theorem CodesAt.put {C : Addr} {H : Hp} {a : Str} {cs : List CA} {ms : List MA} {D : Addr} {l : List V} {o : HO} (hD : H D = some (.lst l)) (h : CodesAt C H a cs ms) : CodesAt C (upd H D o) a cs ms := ⟨h.1, fun i v m e1 e2 => let ⟨x, y⟩ := h.2 i v m e1 e2; ⟨x.put hD, y⟩⟩
theorem dtA_str {H : Hp} {S : Addr → Prop} : ∀ xs : List Str, DtAll H S (xs.map V.str) (xs.map PyData.str)
  | [] => .nil
  | x :: r => .cons (.flat (show FlatD (.str x) (.str x) from rfl)) (dtA_str r)
theorem three_ {α : Type} {l : List α} (h : l.length = 3) : ∃ x y z, l = [x, y, z] := by
  match l, h with
  | [x, y, z], _ => exact ⟨x, y, z, rfl⟩
theorem mach_q : Mach [[0]] ("q" : Str).length [0] := by
  have e : ("q" : Str).length = 1 := by decide +kernel
  rw [e]
  refine ⟨⟨by decide, by decide, fun r hr => ?_, by decide, fun r hr t ht => ?_⟩, fun x hx => ?_, List.pairwise_singleton _ _⟩
  · rw [List.mem_singleton.mp hr]
    rfl
  · rw [List.mem_singleton.mp hr] at ht
    rw [List.mem_singleton.mp ht]
    decide
  · rw [List.mem_singleton.mp hx]
    decide
theorem abc_q : Abc "q" := ⟨by decide +kernel, by decide +kernel⟩
theorem fur_q : ((fur "q").take ("q" : Str).length).length = ("q" : Str).length := by decide +kernel
theorem abcd_codes : cp ("abcd" : Str) = [97, 98, 99, 100] := by decide +kernel
def spRi : Sp := fun vs H Q _ => ∃ d g : Addr, vs = [.ref d] ∧ DeckAt H d g ∧ ∀ H', DeckAt H' d g → Keeps d g H H' → Q (.bl true) H'
theorem len_ri : ∀ vs H Q E, spRi vs H Q E → vs.length = (["_law_deck_here"] : List Str).length := fun vs H Q E ⟨_, _, e, _⟩ => by rw [e]; rfl
section
variable {P : Program} {w : World} {K : PySem.W.Frag} {mg : Str → Option Value} {base : Heap} {C CO : Addr}
theorem scRi : FnScope nRi ["_law_deck_here"] (defScope sRi) := ⟨rfl, rfl, rfl, by decide +kernel, rfl, by decide +kernel, by decide +kernel⟩
theorem ok_ri {f fS fM fTr fRu fW fRf fI fSt fL fWi fQ : Addr} {fd fdS fdM fdTr fdRu fdW fdRf fdI fdSt fdL fdWi fdQ : FuncData} (F : Fun K "_law_right" "_law_right" sRi f fd) (T : TxtRi K mg C fS fM fTr fRu fW fRf)
    (GS : FnOk P w K mg base CX0 2 fS fdS ["_law_deck_here", "_law_limit"] spSigns) (bS : L2.Binds K fdS ["_law_deck_here", "_law_limit"] []) (kS : PySem.W.keepIn K (.ref fS) = true)
    (GM : FnOk P w K mg base CX0 2 fM fdM ["_law_deck_here", "_law_signs_here", "_law_size"] (spMach K)) (bM : L2.Binds K fdM ["_law_deck_here", "_law_signs_here", "_law_size"] []) (kM : PySem.W.keepIn K (.ref fM) = true)
    (M : Mk K C fI) (GI : FnOk P w K mg base CX0 5 fI fdI ["self", "letters", "rows", "ends"] (spLMake C)) (bI : L2.Binds K fdI ["self", "letters", "rows", "ends"] [])
    (mS : Meth K C "__str__" fSt) (GSt : FnOk P w K mg base CX0 3 fSt fdSt ["self"] (spLStr C)) (bSt : L2.Binds K fdSt ["self"] [])
    (GTr : FnG P w K mg base 9 fTr fdTr ["_law_signs_here", "_law_parts", "_law_codes"] (spTr C)) (bTr : L2.Binds K fdTr ["_law_signs_here", "_law_parts", "_law_codes"] []) (kTr : PySem.W.keepIn K (.ref fTr) = true)
    (GRu : FnOk P w K mg base CX0 9 fRu fdRu ["_law_one", "_law_two", "_law_three"] (spRu C)) (bRu : L2.Binds K fdRu ["_law_one", "_law_two", "_law_three"] []) (kRu : PySem.W.keepIn K (.ref fRu) = true)
    (hLe : PySem.W.findIn K (.ref C) "__le__" = some (some (.ref fL))) (fLe : PySem.W.isFn K (.ref fL) = true) (GLe : FnOk P w K mg base (L2.CX P w) 3 fL fdL ["self", "other"] (spLe C CO)) (bLe : L2.Binds K fdL ["self", "other"] [])
    (GW : FnOk P w K mg base CX0 1 fW fdW ["_law_made", "_law_mate"] spWin) (bW : L2.Binds K fdW ["_law_made", "_law_mate"] []) (kW : PySem.W.keepIn K (.ref fW) = true)
    (mW : Meth K C "with_letters" fWi) (GWi : FnOk P w K mg base CX0 7 fWi fdWi ["self", "letters"] (spWit C)) (bWi : L2.Binds K fdWi ["self", "letters"] [])
    (GRf : FnOk P w K mg base CX0 9 fRf fdRf ["_law_word", "_law_one", "_law_two"] (spRef C)) (bRf : L2.Binds K fdRf ["_law_word", "_law_one", "_law_two"] []) (kRf : PySem.W.keepIn K (.ref fRf) = true)
    (mQ : Meth K C "__eq__" fQ) (GQ : FnOk P w K mg base CX0 1 fQ fdQ ["self", "other"] (spLEq K C)) (bQ : L2.Binds K fdQ ["self", "other"] []) :
    FnG P w K mg base 10 f fd ["_law_deck_here"] spRi := by
  refine FunG F scRi len_ri (fun cdv Ar outer s H vs Q E hr hg h => ?_)
  obtain ⟨d, g, rfl, hD, q⟩ := h
  have hr1 : Room 1 _ := hr.mono (by decide)
  have hr2 : Room 2 _ := hr.mono (by decide)
  have hr3 : Room 3 _ := hr.mono (by decide)
  have hr5 : Room 5 _ := hr.mono (by decide)
  have hr6 : Room 6 _ := hr.mono (by decide)
  have hr7 : Room 7 _ := hr.mono (by decide)
  have hu : (Ar.deeper (envOfC "_law_right" (defScope sRi) s.heap.objs.size f cdv)).units + 100 < cLine := by
    have z := hr.un
    omega
  have hu1 : (Ar.deeper (envOfC "_law_right" (defScope sRi) s.heap.objs.size f cdv)).units < cLine := by omega
  have hu2 : (Ar.deeper (envOfC "_law_right" (defScope sRi) s.heap.objs.size f cdv)).in1.units < cLine := by
    have z := hr1.in1.un
    omega
  refine ⟨_, (pss_cons (ps_asg (pe_tup (pa_cons (pe_call GS hr2 rfl T.signs kS bS .nil pass0 (pa_cons (pv 0) (pa_cons pe_int pa_nil))) (pa_cons (pe_lst pa_nil) pa_nil))) (pg_tup rfl (pgs_cons (pg_name (i := 1) scRi.nd rfl (Or.inr rfl)) (pgs_cons (pg_name (i := 2) scRi.nd rfl (Or.inl rfl)) pgs_nil))))
    (pss_cons (ps_for PassesOwn.never rfl (pi_range1 rfl T.range (pa_cons pe_int pa_nil)) (pg_name (i := 3) scRi.nd rfl (Or.inl rfl)) (pss_one (ps_expr (pe_bm PySem.F.plainAttrs_list PySem.F.slot_list_append PySem.F.type_list_append mt_append (pv 2) (pa_cons (pe_call GM hr2 rfl T.mach kM bM .nil pass0 (pa_cons (pv 0) (pa_cons (pv 1) (pa_cons pe_int pa_nil)))) pa_nil)))))
    (pss_cons (ps_setLc (i := 4) (own := [("_law_made", 10)]) (g := gName 10) (tt := tYes) rfl scRi.nd rfl rfl (sw_true rfl rfl rfl (by decide +kernel)) (pi_list (pv 2)) (blkOk_by (N := nRi) (sc := defScope sRi) (by decide +kernel)) (fun _ _ _ _ _ => by exact (pg_name (i := 10) scRi.nd rfl (Or.inl rfl))) (fun _ _ _ _ _ => pts_nil) (fun _ _ _ _ _ => by exact (pe_make M GI hr6 (by rfl) T.gL bI .nil pass0 (pa_cons (pv 1) (pa_cons (pe_ix (ixT_at (K := K) rfl) (pv 10) pe_int (fun _ _ => rfl)) (pa_cons (pe_ix (ixT_at (K := K) rfl) (pv 10) pe_int (fun _ _ => rfl)) pa_nil))))))
    (pss_cons (ps_set (i := 5) scRi.nd rfl (Or.inl rfl) (pe_callB (call_rep hg hu (fun _ => True)) (by rfl) T.rep (by decide +kernel) (pa_cons (pe_lc (own := [("_law_code", 11)]) (g := gName 11) (tt := tYes) rfl scRi.nd (pi_list (pv 4)) (blkOk_by (N := nRi) (sc := defScope sRi) (by decide +kernel)) (fun _ _ _ _ _ => by exact (pg_name (i := 11) scRi.nd rfl (Or.inl rfl))) (fun _ _ _ _ _ => pts_nil) (fun _ _ _ _ _ => by exact (pe_callTy (call_strO mS GSt hr5 bSt pass0) (by rfl) T.str (by decide +kernel) (pa_cons (pv 11) pa_nil)))) pa_nil)))
    (pss_cons (ps_if (PW.pt (pw_or (pt_not (pt_val (pe_callG GTr len_tr hg hr rfl T.texts kTr bTr .nil pass0 (pa_cons (pv 1) (pa_cons (pv 2) (pa_cons (pe_slice sl_list (pv 4) po_none (po_some pe_int)) pa_nil)))))) (pw_or1 (pt_not (pt_val (pe_call GRu hr rfl T.rules kRu bRu .nil pass0 (pa_cons (pe_ix ix_list (pv 4) pe_int (fun _ _ => rfl)) (pa_cons (pe_ix ix_list (pv 4) pe_int (fun _ _ => rfl)) (pa_cons (pe_ix ix_list (pv 4) pe_int (fun _ _ => rfl)) pa_nil))))))))) (pss_one (ps_ret pe_bl)) pss_nil)
    (pss_cons (ps_for PassesOwn.never rfl (pi_tup (pe_tup (pa_cons (pe_tup (pa_cons pe_int (pa_cons pe_int pa_nil))) (pa_cons (pe_tup (pa_cons pe_int (pa_cons pe_int pa_nil))) (pa_cons (pe_tup (pa_cons pe_int (pa_cons pe_int pa_nil))) (pa_cons (pe_tup (pa_cons pe_int (pa_cons pe_int pa_nil))) pa_nil)))))) (pg_tup rfl (pgs_cons (pg_name (i := 3) scRi.nd rfl (Or.inl rfl)) (pgs_cons (pg_name (i := 6) scRi.nd rfl (Or.inl rfl)) pgs_nil))) (pss_one (ps_if (pt_cmpR op_ne (pe_callB (call_rep hg hu (fun _ => True)) (by rfl) T.rep (by decide +kernel) (pa_cons (pe_cmpR (op_leO hLe fLe GLe hr3 bLe passF hu1) (pe_ix ix_list (pv 4) (pv 3) (fun _ _ => rfl)) (pe_ix ix_list (pv 4) (pv 6) (fun _ _ => rfl)) (nomark _)) pa_nil)) (pe_callB (call_rep hg hu (fun _ => True)) (by rfl) T.rep (by decide +kernel) (pa_cons (pe_call GW hr1 rfl T.within kW bW .nil pass0 (pa_cons (pe_ix ix_list (pv 2) (pv 3) (fun _ _ => rfl)) (pa_cons (pe_ix ix_list (pv 2) (pv 6) (fun _ _ => rfl)) pa_nil))) pa_nil)) (nomark _)) (pss_one (ps_ret pe_bl)) pss_nil)))
    (pss_cons (ps_set (i := 7) scRi.nd rfl (Or.inl rfl) (pe_slice sl_str (pe_join pe_str (pe_lc (own := [("_law_chr_now", 12)]) (g := gName 12) (tt := _) rfl scRi.nd (pi_str pe_str) (blkOk_by (N := nRi) (sc := defScope sRi) (by decide +kernel)) (fun _ _ _ _ _ => by exact (pg_name (i := 12) scRi.nd rfl (Or.inl rfl))) (fun _ _ _ _ _ => by exact pts_one (pt_cmpR op_notIn_sign (pv 12) (pv 1) (by rfl))) (fun _ _ _ _ _ => by exact (pv 12)))) po_none (po_some (pe_callB call_len_str (by rfl) T.len PySem.boot_len (pa_cons (pv 1) pa_nil)))))
    (C8.pss_cut (ps_set (i := 8) scRi.nd rfl (Or.inl rfl) (pe_ifExp (pt_cmpR op_eq (pe_callB call_len_str (by rfl) T.len PySem.boot_len (pa_cons (pv 7) pa_nil)) (pe_callB call_len_str (by rfl) T.len PySem.boot_len (pa_cons (pv 1) pa_nil)) (nomark _)) (pe_meth (pe_ix ix_list (pv 4) pe_int (fun _ _ => rfl)) T.cl mW GWi hr7 bWi .nil pass0 (pa_cons (pv 7) pa_nil)) (pe_make M GI hr6 (by rfl) T.gL bI .nil pass0 (pa_cons pe_str (pa_cons (pe_tup (pa_cons (pe_tup (pa_cons pe_int pa_nil)) pa_nil)) (pa_cons (pe_tup (pa_cons pe_int pa_nil)) pa_nil))))))
    (pss_cons (ps_for PassesOwn.never rfl (pi_tup (pe_tup (pa_cons pe_str (pa_cons pe_str (pa_cons pe_str (pa_cons pe_str (pa_cons pe_str pa_nil))))))) (pg_name (i := 9) scRi.nd rfl (Or.inl rfl)) (pss_one (ps_if (PW.pt (pw_or (pt_not (pt_val (pe_call GRf hr rfl T.refused kRf bRf .nil pass0 (pa_cons (pv 9) (pa_cons (pe_ix ix_list (pv 4) pe_int (fun _ _ => rfl)) (pa_cons (pv 8) pa_nil)))))) (pw_or1 (pt_not (pt_val (pe_call GRf hr rfl T.refused kRf bRf .nil pass0 (pa_cons (pv 9) (pa_cons (pv 8) (pa_cons (pe_ix ix_list (pv 4) pe_int (fun _ _ => rfl)) pa_nil))))))))) (pss_one (ps_ret pe_bl)) pss_nil)))
    (pss_one (ps_ret (pe_and (pe_cmpR (op_neO T.hm mQ.at_ T.ne mQ.fn GQ hr2 bQ pass0 hu1 hu2) (pe_ix ix_list (pv 4) pe_int (fun _ _ => rfl)) (pv 8) (nomark _)) (pe_one (pe_cmpR op_eq (pe_callB (call_rep hg hu (fun _ => True)) (by rfl) T.rep (by decide +kernel) (pa_cons (pe_lc (own := [("_law_code", 11)]) (g := gName 11) (tt := tYes) rfl scRi.nd (pi_list (pv 4)) (blkOk_by (N := nRi) (sc := defScope sRi) (by decide +kernel)) (fun _ _ _ _ _ => by exact (pg_name (i := 11) scRi.nd rfl (Or.inl rfl))) (fun _ _ _ _ _ => pts_nil) (fun _ _ _ _ _ => by exact (pe_callTy (call_strO mS GSt hr5 bSt pass0) (by rfl) T.str (by decide +kernel) (pa_cons (pv 11) pa_nil)))) pa_nil)) (pv 5) (nomark _))))))))))))))), ?_⟩
  have at0 : ∀ (x y : V), atI [x, y] 0 = some x := fun x y => atI_nat (j := 0) rfl
  have at1 : ∀ (x y : V), atI [x, y] 1 = some y := fun x y => atI_nat (j := 1) rfl
  refine ⟨_, rfl, d, g, 3, rfl, by decide, by decide, hD, fun a H1 hlet hx3 h8 hD1 k1 => ⟨Nat.zero_le _, fun lp hlp => ⟨(by show 2 ≤ sizeLine; decide), fun tp htp => ⟨tp, _, rfl, SqT.of upd_same, rfl, _, _, rfl, _, _, rfl, rfl, ?_⟩⟩⟩⟩
  have z1 := same_new hlp (.lst [])
  have z2 := same_new htp (.tup [V.str a, V.ref lp])
  have hlpn := hD1.dn hlp
  have e1 : upd (upd H1 lp (.lst [])) tp (.tup [V.str a, V.ref lp]) lp = some (.lst []) := z2 _ _ upd_same
  have z12 := z1.trans z2
  have hD2 := hD1.same z12
  show tSeq _ _ _ [some (V.ref d), some (V.str a), some (V.ref lp), none, none, none, none, none, none, none, none, none, none] _
  generalize upd (upd H1 lp (.lst [])) tp (.tup [V.str a, V.ref lp]) = H2 at e1 z12 hD2 ⊢
  clear z1 z2 htp
  have hal : (cp a).length = a.length := by rw [Array.length_toList]; rfl
  have X : Abc a := ⟨hlet, h8⟩
  obtain ⟨x1, x4⟩ := X.four
  refine ⟨3, rfl, by decide, by decide, for_range (lo := 0) (n := 3) (fun i σ H' => ∃ (vs : List V) (ms : List MA) (v3 : Option V), σ = [some (V.ref d), some (V.str a), some (V.ref lp), v3, none, none, none, none, none, none, none, none, none] ∧ H' lp = some (.lst vs) ∧ PartsAt H' a vs ms ∧ vs.length = i ∧ DeckAt H' d g ∧ Keeps d g H1 H')
    ⟨[], [], none, rfl, e1, ⟨rfl, fun i v m e => by simp at e⟩, rfl, hD2, .of z12⟩ ?_ ?_⟩
  · rintro i σ H3 hi ⟨vs, ms, v3, rfl, m1, m2, m3, hD3, k3⟩
    refine ⟨_, rfl, .inl ⟨rfl, _, SqL.of m1⟩, _, rfl, _, rfl, d, g, a, 4, rfl, by decide, by decide, x4, hD3, fun t v e B eB H5 q1 q2 q3 q4 q5 sq n0 few q6 lt up hD5 k5 => ?_⟩
    rw [hal] at sq
    have m1' := k5 _ _ hlpn.1 hlpn.2 m1
    have ma : MachAt H5 (.ref t) B eB := ⟨t, v, e, rfl, q1, mrows_of q3, nats_of q4⟩
    have m2' := m2.tk (tk_keeps hD3 k5)
    refine ⟨lp, _, _, rfl, rfl, m1', by rw [m3, sizeLine_eq]; omega, vs ++ [.ref t], ms ++ [(B, eB)], _, rfl, upd_same, (m2'.tk (tk_put m1' _)).snoc (m := (B, eB)) (ma.tk (tk_put m1' _)) ⟨sq, lt, up⟩ few, by rw [List.length_append, m3]; rfl, hD5.other hlpn.1 hlpn.2 _, fun b o n1 n2 e => ?_⟩
    rw [upd_ne (ne_of_none e hlp)]
    exact k5 b o n1 n2 (k3 b o n1 n2 e)
  rintro σ H3 ⟨vs, ms, v3, rfl, m1, m2, m3, hD3, k3⟩
  have m4 : ms.length = 3 := by rw [← m2.1, m3]
  obtain ⟨v0, v1, v2, rfl⟩ := three_ m3
  obtain ⟨⟨A0, f0⟩, ⟨A1, f1⟩, ⟨A2, f2⟩, rfl⟩ := three_ m4
  clear m3 m4 e1 z12 hD2 H2
  refine ⟨_, rfl, lp, rfl, ⟨_, SqL.of m1⟩, fun D hD0 => ?_⟩
  refine lc_it (walk_list (xs := [v0, v1, v2])) (fun i H' => ∃ cs : List CA, H' D = some (.lst (cs.map fun c => V.ref c.1)) ∧ CodesAt C H' a cs ([(A0, f0), (A1, f1), (A2, f2)].take i) ∧ Same H3 H') ⟨[], upd_same, ⟨rfl, fun i v m e => by simp at e⟩, same_new hD0 _⟩ (fun i H' _ ⟨_, _, _, s⟩ => SqL.of (s _ _ m1)) ?_ ?_
  · rintro i v H5 H6 hi ⟨cs, n1, n2, s5⟩ ⟨rfl, hv⟩
    have hi3 : i < 3 := hi
    obtain ⟨m, hm⟩ : ∃ m, [(A0, f0), (A1, f1), (A2, f2)][i]? = some m := ⟨_, List.getElem?_eq_getElem (show i < [(A0, f0), (A1, f1), (A2, f2)].length from hi3)⟩
    obtain ⟨ma, mm, few⟩ := (m2.tk (tk_same s5)).2 i v m hv hm
    obtain ⟨t, vr, ve, rfl, ht, hR, hE⟩ := id ma
    refine ⟨rfl, _, rfl, _, rfl, t, _, _, vr, rfl, rfl, SqT.of ht, at0 _ _, _, rfl, t, _, _, ve, rfl, rfl, SqT.of ht, at1 _ _, fun p px hp hpx hpne => lang_make mm hlet h8 hR hE hp hpx hpne fun B1 e1 H7 s7 hL K1 K2 => ⟨rfl, _, s7 _ _ n1, ?_, cs ++ [(p, B1, e1)], ?_, ?_, fun b' o' e' => ?_⟩⟩
    · rw [List.length_map, n2.1]
      refine Nat.lt_of_le_of_lt (List.length_take_le' _ _) ?_
      show 3 < sizeLine
      decide
    · rw [upd_same, List.map_append]
      rfl
    · rw [List.take_add_one, hm]
      refine CodesAt.put (s7 _ _ n1) ((n2.same s7).snoc (c := (p, B1, e1)) (m := m) ⟨hL, K1⟩ (fun w hw => ?_) (Nat.le_trans (least_le K1 mm.sq K2) few))
      unfold Wd
      exact decide_eq_decide.mpr (K2 w hw)
    · rw [upd_ne (ne_of_none e' hD0)]
      exact s7 _ _ (s5 _ _ e')
  rintro H5 ⟨cs, n1, n2, s5⟩
  have n3 : cs.length = 3 := n2.1
  obtain ⟨⟨p0, R0, r0⟩, ⟨p1, R1, r1⟩, ⟨p2, R2, r2⟩, rfl⟩ := three_ n3
  obtain ⟨L0, W0, c0⟩ := n2.2 0 _ _ rfl rfl
  obtain ⟨L1, W1, c1⟩ := n2.2 1 _ _ rfl rfl
  obtain ⟨L2, W2, c2⟩ := n2.2 2 _ _ rfl rfl
  have n1 : H5 D = some (.lst [V.ref p0, V.ref p1, V.ref p2]) := n1
  have P5 := m2.tk (tk_same s5)
  have m15 := s5 _ _ m1
  have hD5 := hD3.same s5
  have k5 : Keeps d g H1 H5 := k3.trans (.of s5)
  clear m1 m2 hD3 k3 s5 n2 n3 hD0 H3
  -- what the three are as texts
  obtain ⟨names, hnames⟩ : ∃ names : List Str, names = [machS a R0 r0, machS a R1 r1, machS a R2 r2] := ⟨_, rfl⟩
  have shw : Shows (.list (names.map PyData.str)) := machs_shows X (fun x hx => by
    rw [hnames] at hx
    simp only [List.mem_cons, List.not_mem_nil, or_false] at hx
    rcases hx with rfl | rfl | rfl
    · exact ⟨R0, r0, rfl, L0.mach, c0⟩
    · exact ⟨R1, r1, rfl, L1.mach, c1⟩
    · exact ⟨R2, r2, rfl, L2.mach, c2⟩) (by rw [hnames]; show 3 ≤ 4; decide)
  have nth : ∀ (i : Nat) (v : V), [V.ref p0, V.ref p1, V.ref p2][i]? = some v → ∃ p R r, v = .ref p ∧ LG C H5 p a R r ∧ R.length ≤ 4 ∧ names[i]? = some (machS a R r) := fun i v e => by
    rw [hnames]
    match i, e with
    | 0, e => exact ⟨p0, R0, r0, (Option.some.inj e).symm, L0, c0, rfl⟩
    | 1, e => exact ⟨p1, R1, r1, (Option.some.inj e).symm, L1, c1, rfl⟩
    | 2, e => exact ⟨p2, R2, r2, (Option.some.inj e).symm, L2, c2, rfl⟩
    | n + 3, e => simp at e
  have nl : names.length = 3 := by rw [hnames]; rfl
  refine ⟨_, rfl, D, rfl, ⟨_, SqL.of n1⟩, fun D2 hD2 => ?_⟩
  refine lc_it (walk_list (xs := [V.ref p0, V.ref p1, V.ref p2])) (fun i H' => H' D2 = some (.lst ((names.take i).map V.str)) ∧ Same H5 H') ⟨upd_same, same_new hD2 _⟩ (fun i H' _ ⟨_, s⟩ => SqL.of (s _ _ n1)) ?_ ?_
  · rintro i v H6 H7 hi ⟨u1, s6⟩ ⟨rfl, hv⟩
    obtain ⟨p, R, r, rfl, L, c, en⟩ := nth i v hv
    have L' := L.same s6
    obtain ⟨dx, _, _, h1, _, _⟩ := id L'.at_
    obtain ⟨b1, b2, b3, b4⟩ := bnd L.mach
    refine ⟨rfl, _, rfl, p, dx, _, rfl, h1, p, a, R, r, rfl, L'.at_, by omega, b1, b2, b3, b4, fun H8 s8 => ⟨_, rfl, _, s8 _ _ u1, ?_, ?_, fun b' o' e' => ?_⟩⟩
    · rw [List.length_map]
      refine Nat.lt_of_le_of_lt (List.length_take_le' _ _) ?_
      rw [nl]
      decide
    · rw [upd_same, List.take_add_one, en, List.map_append]
      rfl
    · rw [upd_ne (ne_of_none e' hD2)]
      exact s8 _ _ (s6 _ _ e')
  rintro H6 ⟨u1, s6⟩
  rw [show names.take [V.ref p0, V.ref p1, V.ref p2].length = names from List.take_of_length_le (by rw [nl]; exact Nat.le_refl 3)] at u1
  refine ⟨_, _, rfl, .lst u1 trivial (dtA_str names), shw, ?_⟩
  obtain ⟨seen, eseen⟩ : ∃ seen, seen = PyData.shown (.list (names.map PyData.str)) := ⟨_, rfl⟩
  rw [← eseen]
  -- texts
  have n16 := s6 _ _ n1
  have m16 := s6 _ _ m15
  have P6 := P5.tk (tk_same s6)
  have hD6 := hD5.same s6
  have k6 : Keeps d g H1 H6 := k5.trans (.of s6)
  obtain ⟨ma0, mm0, d0⟩ := P6.2 0 _ _ rfl rfl
  obtain ⟨ma1, mm1, d1⟩ := P6.2 1 _ _ rfl rfl
  obtain ⟨ma2, mm2, d2'⟩ := P6.2 2 _ _ rfl rfl
  refine ⟨_, rfl, _, rfl, _, rfl, 2, rfl, D, _, rfl, SqL.of n16, fun lc hlc => ?_⟩
  have s7 := same_new hlc (.lst (cutV [V.ref p0, V.ref p1, V.ref p2] none (some 2)))
  have elc : upd H6 lc (.lst (cutV [V.ref p0, V.ref p1, V.ref p2] none (some 2))) lc = some (.lst [V.ref p0, V.ref p1]) := by
    rw [upd_same]
    rfl
  generalize upd H6 lc (.lst (cutV [V.ref p0, V.ref p1, V.ref p2] none (some 2))) = H7 at s7 elc ⊢
  have s57 := s6.trans s7
  refine ⟨a, lp, lc, p0, p1, v0, v1, [v2], A0, A1, R0, R1, f0, f1, r0, r1, rfl, s7 _ _ m16, ma0.tk (tk_same s7), ma1.tk (tk_same s7), mm0, mm1, elc, L0.same s57, L1.same s57, X, hx3, c0, c1, W0, W1, fun H8 s8 => ⟨_, rfl, if_fl rfl ?_⟩⟩
  have s68 := s7.trans s8
  have s58 := s57.trans s8
  have n18 := s68 _ _ n16
  have m18 := s68 _ _ m16
  have a3_0 : ∀ (x y z : V), atI [x, y, z] 0 = some x := fun x y z => atI_nat (j := 0) rfl
  have a3_1 : ∀ (x y z : V), atI [x, y, z] 1 = some y := fun x y z => atI_nat (j := 1) rfl
  have a3_2 : ∀ (x y z : V), atI [x, y, z] 2 = some z := fun x y z => atI_nat (j := 2) rfl
  refine ⟨_, rfl, D, _, _, _, rfl, rfl, SqL.of n18, a3_0 _ _ _, _, rfl, D, _, _, _, rfl, rfl, SqL.of n18, a3_1 _ _ _, _, rfl, D, _, _, _, rfl, rfl, SqL.of n18, a3_2 _ _ _, p0, p1, p2, a, Wd R0 r0, Wd R1 r1, Wd R2 r2, rfl, ⟨R0, r0, L0.same s58, fun _ _ => rfl, c0⟩, ⟨R1, r1, L1.same s58, fun _ _ => rfl, c1⟩, ⟨R2, r2, L2.same s58, fun _ _ => rfl, c2⟩, X, fun H9 s9 => ⟨_, rfl, if_fl rfl ?_⟩⟩
  have s59 := s58.trans s9
  have s69 := s68.trans s9
  have n19 := s9 _ _ n18
  have m19 := s9 _ _ m18
  have all : ∀ k, k < 3 → ∃ p R r A f v, [V.ref p0, V.ref p1, V.ref p2][k]? = some (.ref p) ∧ LG C H9 p a R r ∧ R.length ≤ 4 ∧ [v0, v1, v2][k]? = some v ∧ MachAt H9 v A f ∧ Mach A a.length f ∧ A.length ≤ 4 ∧ ∀ w : List Nat, (∀ j ∈ w, j < a.length) → Wd R r w = Wd A f w := fun k hk => by
    match k, hk with
    | 0, _ => exact ⟨p0, R0, r0, A0, f0, v0, rfl, L0.same s59, c0, rfl, ma0.tk (tk_same s69), mm0, d0, W0⟩
    | 1, _ => exact ⟨p1, R1, r1, A1, f1, v1, rfl, L1.same s59, c1, rfl, ma1.tk (tk_same s69), mm1, d1, W1⟩
    | 2, _ => exact ⟨p2, R2, r2, A2, f2, v2, rfl, L2.same s59, c2, rfl, ma2.tk (tk_same s69), mm2, d2', W2⟩
    | n + 3, h => omega
  have L0' := L0.same s59
  have L1' := L1.same s59
  have L2' := L2.same s59
  have hD9 := hD6.same s69
  have k9 : Keeps d g H1 H9 := k6.trans (.of s69)
  have nth' : ∀ (i : Nat) (v : V), [V.ref p0, V.ref p1, V.ref p2][i]? = some v → ∃ p R r, v = .ref p ∧ LG C H9 p a R r ∧ R.length ≤ 4 ∧ names[i]? = some (machS a R r) := fun i v e => by
    obtain ⟨p, R, r, x1, x2, x3⟩ := nth i v e
    exact ⟨p, R, r, x1, x2.same s59, x3⟩
  clear nth ma0 ma1 ma2 n1 n16 n18 m15 m16 m18 s6 s7 s8 s9 s57 s58 s68 s69 s59 elc hlc P5 P6 hD5 hD6 k5 k6 u1 hD2 L0 L1 L2
  refine ⟨(by show 2 ≤ sizeLine; decide), fun t1 g1 => ⟨(by show 2 ≤ sizeLine; decide), fun t2 g2 => ⟨(by show 2 ≤ sizeLine; decide), fun t3 g3 => ⟨(by show 2 ≤ sizeLine; decide), fun t4 g4 => ⟨(by show 4 ≤ sizeLine; decide), fun tt gt => ⟨tt, rfl, ⟨_, SqT.of upd_same⟩, ?_⟩⟩⟩⟩⟩⟩
  have b1 := same_new g1 (.tup [V.int 0, V.int 1])
  have b2 := same_new g2 (.tup [V.int 1, V.int 0])
  have b3 := same_new g3 (.tup [V.int 2, V.int 0])
  have b4 := same_new g4 (.tup [V.int 1, V.int 1])
  have b5 := same_new gt (.tup [V.ref t1, V.ref t2, V.ref t3, V.ref t4])
  have y1 := b5 _ _ (b4 _ _ (b3 _ _ (b2 _ _ (show upd H9 t1 (.tup [V.int 0, V.int 1]) t1 = some (.tup [nI 0, nI 1]) from upd_same))))
  have y2 := b5 _ _ (b4 _ _ (b3 _ _ (show upd (upd H9 t1 (.tup [V.int 0, V.int 1])) t2 (.tup [V.int 1, V.int 0]) t2 = some (.tup [nI 1, nI 0]) from upd_same)))
  have y3 := b5 _ _ (b4 _ _ (show upd (upd (upd H9 t1 (.tup [V.int 0, V.int 1])) t2 (.tup [V.int 1, V.int 0])) t3 (.tup [V.int 2, V.int 0]) t3 = some (.tup [nI 2, nI 0]) from upd_same))
  have y4 := b5 _ _ (show upd (upd (upd (upd H9 t1 (.tup [V.int 0, V.int 1])) t2 (.tup [V.int 1, V.int 0])) t3 (.tup [V.int 2, V.int 0])) t4 (.tup [V.int 1, V.int 1]) t4 = some (.tup [nI 1, nI 1]) from upd_same)
  have y5 : upd (upd (upd (upd (upd H9 t1 (.tup [V.int 0, V.int 1])) t2 (.tup [V.int 1, V.int 0])) t3 (.tup [V.int 2, V.int 0])) t4 (.tup [V.int 1, V.int 1])) tt (.tup [V.ref t1, V.ref t2, V.ref t3, V.ref t4]) tt = some (.tup [V.ref t1, V.ref t2, V.ref t3, V.ref t4]) := upd_same
  have bb := (((b1.trans b2).trans b3).trans b4).trans b5
  generalize upd (upd (upd (upd (upd H9 t1 (.tup [V.int 0, V.int 1])) t2 (.tup [V.int 1, V.int 0])) t3 (.tup [V.int 2, V.int 0])) t4 (.tup [V.int 1, V.int 1])) tt (.tup [V.ref t1, V.ref t2, V.ref t3, V.ref t4]) = H10 at y1 y2 y3 y4 y5 bb ⊢
  clear b1 b2 b3 b4 b5 g1 g2 g3 g4 gt
  have prs : ∀ (i : Nat) (y : V), [V.ref t1, V.ref t2, V.ref t3, V.ref t4][i]? = some y → ∃ tq k j, y = .ref tq ∧ H10 tq = some (.tup [nI k, nI j]) ∧ k < 3 ∧ j < 3 := fun i y e => by
    match i, e with
    | 0, e => exact ⟨t1, 0, 1, (Option.some.inj e).symm, y1, by decide, by decide⟩
    | 1, e => exact ⟨t2, 1, 0, (Option.some.inj e).symm, y2, by decide, by decide⟩
    | 2, e => exact ⟨t3, 2, 0, (Option.some.inj e).symm, y3, by decide, by decide⟩
    | 3, e => exact ⟨t4, 1, 1, (Option.some.inj e).symm, y4, by decide, by decide⟩
    | n + 4, e => simp at e
  have dB : ∀ {Hx : Hp} (x : Bool), Dt Hx (fun _ => True) (.bl x) (.bool x) := fun x => .flat (show FlatD (.bl x) (.bool x) from rfl)
  have shB : ∀ x : Bool, Shows (.bool x) := fun x => by
    cases x
    · exact ⟨rfl, (by decide +kernel : (PyData.shown (.bool false)).length ≤ 1000000), by simp [PyData.depth]⟩
    · exact ⟨rfl, (by decide +kernel : (PyData.shown (.bool true)).length ≤ 1000000), by simp [PyData.depth]⟩
  refine for_tup (K := K) (a := tt) (xs := [V.ref t1, V.ref t2, V.ref t3, V.ref t4]) (fun i σ H' => ∃ v3 v6 : Option V, σ = [some (V.ref d), some (V.str a), some (V.ref lp), v3, some (V.ref D), some (V.str seen), v6, none, none, none, none, none, none] ∧ Same H10 H')
    ⟨_, _, rfl, Same.refl _⟩ (fun i σ H' _ ⟨_, _, _, s⟩ => SqT.of (s _ _ y5)) ?_ ?_
  · rintro i y σ H11 hy ⟨v3, v6, rfl, s11⟩
    obtain ⟨tq, k, j, rfl, hq, hk, hj⟩ := prs i y hy
    have s9b := bb.trans s11
    obtain ⟨pk, Rk, rk, Ak, fk, vk, x1, x2, x3, x4, x5, x6, x7, x8⟩ := all k hk
    obtain ⟨pj, Rj, rj, Aj, fj, vj, z1, z2, z3, z4, z5, z6, z7, z8⟩ := all j hj
    have x2' := x2.same s9b
    have z2' := z2.same s9b
    obtain ⟨dx, _, _, hx1, _, _⟩ := id x2'.at_
    obtain ⟨dy, _, _, hy1, _, _⟩ := id z2'.at_
    have fw : Rk.length * Rj.length ≤ 16 := Nat.mul_le_mul x3 z3
    have fw2 : Ak.length * Aj.length ≤ 16 := Nat.mul_le_mul x7 z7
    refine ⟨tq, _, rfl, SqT.of (s11 _ _ hq), rfl, _, _, rfl, _, _, rfl, rfl, ?_⟩
    refine ⟨_, rfl, _, rfl, D, _, _, .ref pk, rfl, rfl, SqL.of (s9b _ _ n19), atI_nat x1, _, rfl, _, rfl, D, _, _, .ref pj, rfl, rfl, SqL.of (s9b _ _ n19), atI_nat z1, pk, dx, _, pj, dy, _, rfl, rfl, hx1, hy1, pk, pj, a, a, Rk, Rj, rk, rj, rfl, x2', z2', by omega, fun z => absurd rfl z, fun _ r H12 s12 hr1 => ⟨r, rfl, _, _, rfl, dB r, shB r, ?_⟩⟩
    have s9c := s9b.trans s12
    refine ⟨_, rfl, _, rfl, lp, _, _, vk, rfl, rfl, SqL.of (s9c _ _ m19), atI_nat x4, _, rfl, _, rfl, lp, _, _, vj, rfl, rfl, SqL.of (s9c _ _ m19), atI_nat z4, vk, vj, Ak, Aj, fk, fj, a.length, rfl, x5.tk (tk_same s9c), z5.tk (tk_same s9c), x6.sq, z6.sq, by omega, fun r' H13 s13 hr2 => ⟨_, _, rfl, dB r', shB r', rfl, _, rfl, ?_⟩⟩
    obtain rfl : r = r' := by
      rw [Bool.eq_iff_iff, hr1, hr2]
      exact ⟨fun h w hw e => by rw [← z8 w hw]; exact h w hw (by rw [x8 w hw]; exact e), fun h w hw e => by rw [z8 w hw]; exact h w hw (by rw [← x8 w hw]; exact e)⟩
    exact if_fl (by simp) ⟨_, _, rfl, (s11.trans s12).trans s13⟩
  rintro σ H11 ⟨v3, v6, rfl, s11⟩
  have s9b := bb.trans s11
  have n21 := s9b _ _ n19
  have L0b := L0'.same s9b
  have hD11 := hD9.same s9b
  have k11 : Keeps d g H1 H11 := k9.trans (.of s9b)
  have nth2 : ∀ (i : Nat) (v : V), [V.ref p0, V.ref p1, V.ref p2][i]? = some v → ∃ p R r, v = .ref p ∧ LG C H11 p a R r ∧ R.length ≤ 4 ∧ names[i]? = some (machS a R r) := fun i v e => by
    obtain ⟨p, R, r, x1, x2, x3⟩ := nth' i v e
    exact ⟨p, R, r, x1, x2.same s9b, x3⟩
  clear nth' all L0' L1' L2' n19 m19 hD9 k9 s9b s11 bb y1 y2 y3 y4 y5 prs
  -- letters that are no others
  refine ⟨⟨_, rfl⟩, _, rfl, fun D3 hD3 => ?_⟩
  refine lc_it walk_str (fun i H' => H' D3 = some (.lst ((((cp ("abcd" : Str)).take i).filter fun c => !decide (c ∈ cp a)).map fun c => V.str (⟨#[c]⟩ : Str))) ∧ Same H11 H') ⟨upd_same, same_new hD3 _⟩ (fun _ _ _ _ => trivial) ?_ ?_
  · rintro i y H12 H13 hi ⟨u1, u2⟩ ⟨rfl, c, hc, rfl⟩
    have hc' : (cp ("abcd" : Str))[i]? = some c := by rw [Array.getElem?_toList]; exact hc
    refine ⟨rfl, _, rfl, _, rfl, c, a, rfl, rfl, _, rfl, ite2 (fun e => ⟨_, rfl, _, u1, ?_, ?_, fun b' o' e' => ?_⟩) (fun e => ⟨?_, u2⟩)⟩
    · rw [List.length_map]
      refine Nat.lt_of_le_of_lt (List.length_filter_le _ _) (Nat.lt_of_le_of_lt (List.length_take_le' _ _) ?_)
      rw [abcd_codes]
      show 4 < sizeLine
      decide
    · rw [upd_same, List.take_add_one, hc', List.filter_append, List.map_append]
      rw [show (Option.some c).toList.filter (fun c => !decide (c ∈ cp a)) = [c] by show [c].filter _ = _; rw [List.filter_cons]; rw [if_pos e]; rfl]
      rfl
    · rw [upd_ne (ne_of_none e' hD3)]
      exact u2 _ _ e'
    · rw [u1, List.take_add_one, hc', List.filter_append]
      rw [show (Option.some c).toList.filter (fun c => !decide (c ∈ cp a)) = [] by show [c].filter _ = _; rw [List.filter_cons]; rw [if_neg e]; rfl]
      rw [List.append_nil]
  rintro H12 ⟨u1, u2⟩
  have u1 : H12 D3 = some (.lst (((fur a).map fun c => mkS [c]).map V.str)) := by
    rw [u1, show (cp ("abcd" : Str)).take ("abcd" : Str).cps.size = [97, 98, 99, 100] by decide +kernel, List.map_map]
    rfl
  have fl : (fur a).length ≤ 4 := List.length_filter_le _ _
  refine ⟨_, D3, _, rfl, rfl, .inl (SqL.of u1), ?_, ?_⟩
  · rw [sum_signs, List.length_map]
    show (fur a).length + (fur a).length * 0 ≤ _
    omega
  rw [join_signs]
  refine ⟨_, rfl, _, rfl, Nat.le_trans x4 (by decide), _, rfl, _, rfl, ?_, ?_⟩
  · show (fur a).toArray.size ≤ _
    rw [List.size_toArray]
    exact Nat.le_trans fl (by decide)
  rw [cut_head]
  obtain ⟨Fw, hFw⟩ : ∃ Fw, Fw = (fur a).take a.length := ⟨_, rfl⟩
  rw [← hFw]
  have Fl : (mkS Fw).length = Fw.length := by
    show Fw.toArray.size = _
    exact List.size_toArray
  have Fl4 : Fw.length ≤ 4 := by rw [hFw]; exact Nat.le_trans (List.length_take_le' _ _) fl
  have n22 := u2 _ _ n21
  have L0c := L0b.same u2
  obtain ⟨dx, _, _, hx1, _, _⟩ := id L0c.at_
  -- another language
  refine ⟨fun σ' H' => ∃ (pm : Addr) (b : Str) (Rm : List (List Nat)) (rm : List Nat) (v3 v6 v7 : Option V), σ' = [some (V.ref d), some (V.str a), some (V.ref lp), v3, some (V.ref D), some (V.str seen), v6, v7, some (V.ref pm), none, none, none, none] ∧ LG C H' pm b Rm rm ∧ a ≠ b ∧ Abc b ∧ Rm.length ≤ 4 ∧ Same H12 H', ?_, ?_⟩
  · refine ⟨_, rfl, _, rfl, by rw [Fl]; exact Nat.le_trans Fl4 (by decide), _, rfl, _, rfl, Nat.le_trans x4 (by decide), rfl, _, rfl, ?_⟩
    by_cases e : (mkS Fw).length = a.length
    · refine if_tr (by rw [e]; exact decide_eq_true rfl) ?_
      obtain ⟨fo1, fo2⟩ := fur_ok x1 hx3 (by rw [← hFw, ← Fl]; exact e)
      rw [← hFw] at fo1 fo2
      exact ⟨_, rfl, D, _, _, .ref p0, rfl, rfl, SqL.of n22, a3_0 _ _ _, p0, dx, _, rfl, hx1, rfl, _, rfl, p0, a, mkS Fw, R0, r0, rfl, L0c, fo1, e, fun q R e H' s L W k => ⟨q, _, R, e, _, _, _, rfl, L, fo2.symm, fo1, Nat.le_trans k c0, s⟩⟩
    · refine if_fl (decide_eq_false fun z => e (by have := V.int.inj z; omega)) ?_
      have nq : a ≠ "q" := fun z => e (by rw [Fl, hFw, z]; exact fur_q)
      refine ⟨(by show 1 ≤ sizeLine; decide), fun a1 h1 => ⟨(by show 1 ≤ sizeLine; decide), fun a2 h2 => ⟨(by show 1 ≤ sizeLine; decide), fun a3 h3 => ?_⟩⟩⟩
      have w1 := same_new h1 (.tup [V.int 0])
      have w2 := same_new h2 (.tup [.ref a1])
      have w3 := same_new h3 (.tup [V.int 0])
      refine fun p px hp hpx hpn => lang_make (a := ("q" : Str)) (A := [[0]]) (e := [0]) mach_q abc_q.lets abc_q.asc (NRows.tup (bs := [.ref a1]) ?_ (w3 _ _ upd_same)) ⟨a3, rfl, upd_same⟩ hp hpx hpn fun B1 e1 H14 s14 hL K1 K2 => ⟨rfl, p, _, B1, e1, _, _, _, rfl, ⟨hL, K1⟩, nq, abc_q, Nat.le_trans (least_le K1 mach_q.sq K2) (by decide), ((w1.trans w2).trans w3).trans s14⟩
      exact (NRows.nil _).snoc ⟨a1, rfl, w3 _ _ (w2 _ _ upd_same)⟩
  rintro σ' H13 ⟨pm, b, Rm, rm, v3', v6', v7', rfl, Lm, ne, Xb, cm, s13⟩
  have n23 := s13 _ _ n22
  have L0d := L0c.same s13
  have s11d := u2.trans s13
  have fwm : R0.length * Rm.length ≤ 16 := Nat.mul_le_mul c0 cm
  have fwm' : Rm.length * R0.length ≤ 16 := Nat.mul_le_mul cm c0
  clear n22 L0c hx1 u1 hD3
  refine ⟨(by show 5 ≤ sizeLine; decide), fun tt gt => ⟨tt, rfl, ⟨_, SqT.of upd_same⟩, ?_⟩⟩
  have w1 := same_new gt (.tup [V.str "or", V.str "and", V.str "less", V.str "then", V.str "within"])
  have ett : upd H13 tt (.tup [V.str "or", V.str "and", V.str "less", V.str "then", V.str "within"]) tt = some (.tup ([("or" : Str), "and", "less", "then", "within"].map V.str)) := upd_same
  generalize upd H13 tt (.tup [V.str "or", V.str "and", V.str "less", V.str "then", V.str "within"]) = H14 at w1 ett ⊢
  have n24 := w1 _ _ n23
  have L0e := L0d.same w1
  have Lme := Lm.same w1
  refine for_tup (K := K) (a := tt) (xs := [("or" : Str), "and", "less", "then", "within"].map V.str) (fun i σ H' => ∃ v9 : Option V, σ = [some (V.ref d), some (V.str a), some (V.ref lp), v3', some (V.ref D), some (V.str seen), v6', v7', some (V.ref pm), v9, none, none, none] ∧ Same H14 H')
    ⟨_, rfl, Same.refl _⟩ (fun i σ H' _ ⟨_, _, s⟩ => SqT.of (s _ _ ett)) ?_ ?_
  · rintro i y σ H15 hy ⟨v9, rfl, s15⟩
    rw [List.getElem?_map] at hy
    obtain ⟨x, _, rfl⟩ := Option.map_eq_some_iff.mp hy
    refine ⟨_, rfl, _, rfl, D, _, _, .ref p0, rfl, rfl, SqL.of (s15 _ _ n24), a3_0 _ _ _, _, rfl, x, p0, pm, a, b, R0, Rm, r0, rm, rfl, L0e.same s15, Lme.same s15, X, ne, by omega, fun H16 s16 => ⟨_, rfl, if_fl rfl ?_⟩⟩
    have s6a := s15.trans s16
    refine ⟨_, rfl, _, rfl, _, rfl, D, _, _, .ref p0, rfl, rfl, SqL.of (s6a _ _ n24), a3_0 _ _ _, x, pm, p0, b, a, Rm, R0, rm, r0, rfl, Lme.same s6a, L0e.same s6a, Xb, ne.symm, by omega, fun H17 s17 => ⟨_, rfl, if_fl rfl ⟨_, rfl, s6a.trans s17⟩⟩⟩
  rintro σ H15 ⟨v9, rfl, s15⟩
  have s11f := (s11d.trans w1).trans s15
  have n25 := s15 _ _ n24
  have L0f := L0e.same s15
  have Lmf := Lme.same s15
  obtain ⟨dx, _, _, hx1, _, _⟩ := id L0f.at_
  obtain ⟨dy, _, _, hy1, _, _⟩ := id Lmf.at_
  refine ⟨_, rfl, D, _, _, .ref p0, rfl, rfl, SqL.of n25, a3_0 _ _ _, _, rfl, p0, dx, _, rfl, hx1, .inl ⟨pm, dy, _, rfl, hy1⟩, p0, a, R0, r0, .ref pm, rfl, L0f.at_, .inl ⟨pm, b, Rm, rm, rfl, Lmf.at_, _, rfl, _, rfl, if_tr (by rw [decide_eq_false ne]; rfl) ?_⟩⟩
  refine ⟨_, rfl, D, rfl, ⟨_, SqL.of n25⟩, fun D4 hD4 => ?_⟩
  refine lc_it (walk_list (xs := [V.ref p0, V.ref p1, V.ref p2])) (fun i H' => H' D4 = some (.lst ((names.take i).map V.str)) ∧ Same H15 H') ⟨upd_same, same_new hD4 _⟩ (fun i H' _ ⟨_, s⟩ => SqL.of (s _ _ n25)) ?_ ?_
  · rintro i v H16 H17 hi ⟨u1, s16⟩ ⟨rfl, hv⟩
    obtain ⟨p, R, r, rfl, L, c, en⟩ := nth2 i v hv
    have L' := L.same (s11f.trans s16)
    obtain ⟨dz, _, _, h1, _, _⟩ := id L'.at_
    obtain ⟨b1, b2, b3, b4⟩ := bnd L.mach
    refine ⟨rfl, _, rfl, p, dz, _, rfl, h1, p, a, R, r, rfl, L'.at_, by omega, b1, b2, b3, b4, fun H18 s18 => ⟨_, rfl, _, s18 _ _ u1, ?_, ?_, fun b' o' e' => ?_⟩⟩
    · rw [List.length_map]
      refine Nat.lt_of_le_of_lt (List.length_take_le' _ _) ?_
      rw [nl]
      decide
    · rw [upd_same, List.take_add_one, en, List.map_append]
      rfl
    · rw [upd_ne (ne_of_none e' hD4)]
      exact s18 _ _ (s16 _ _ e')
  rintro H16 ⟨u1', s16⟩
  rw [show names.take [V.ref p0, V.ref p1, V.ref p2].length = names from List.take_of_length_le (by rw [nl]; exact Nat.le_refl 3)] at u1'
  refine ⟨_, _, rfl, .lst u1' trivial (dtA_str names), shw, _, rfl, rfl, ?_⟩
  rw [← eseen, decide_eq_true rfl]
  have fin := s11f.trans s16
  exact q _ (hD11.same fin) (k1.trans (k11.trans (.of fin)))
end
end Vf

set_option Elab.async false
set_option linter.all false
set_option maxRecDepth 100000
set_option maxHeartbeats 4000000
namespace Vf
open PySem PySem.Spec PyProof.Rows L2 L2.Vx Vs Vm
abbrev sLaw : Stmt := top 61
structure TxtLaw (mg : Str → Option Value) (fK fR : Addr) : Prop where
  deck : mg "_law_deck" = some (.ref fK)
  right : mg "_law_right" = some (.ref fR)
  range : mg "range" = none
def spLaw (K : PySem.W.Frag) : Sp := fun vs H Q _ => ∃ (a : Addr) (ns : List Int), vs = [.ref a] ∧ SqL K H a (ns.map V.int) ∧ ns.length ≤ 63 ∧ ∀ H', Q (.bl true) H'
section
variable {P : Program} {w : World} {K : PySem.W.Frag} {mg : Str → Option Value} {base : Heap} {fK fR : Addr} {fdK fdR : FuncData}
theorem scLaw : FnScope ["_law_script", "_law_deck_here", "_law_go"] ["_law_script"] (defScope sLaw) := ⟨rfl, rfl, rfl, by decide +kernel, rfl, by decide +kernel, by decide +kernel⟩
theorem ok_law {f : Addr} {fd : FuncData} (F : Fun K "law" "law" sLaw f fd) (T : TxtLaw mg fK fR)
    (GK : FnOk P w K mg base CX0 1 fK fdK ["_law_script"] (spDeck K)) (bK : L2.Binds K fdK ["_law_script"] []) (kK : PySem.W.keepIn K (.ref fK) = true)
    (GR : FnG P w K mg base 10 fR fdR ["_law_deck_here"] spRi) (bR : L2.Binds K fdR ["_law_deck_here"] []) (kR : PySem.W.keepIn K (.ref fR) = true) :
    FnG P w K mg base 11 f fd ["_law_script"] (spLaw K) := by
  refine FunG F scLaw (fun vs H Q E h => ?_) (fun cdv A outer s H vs Q E hr hg h => ?_)
  · obtain ⟨a, ns, rfl, _⟩ := h
    rfl
  obtain ⟨a, ns, rfl, hS, h63, k⟩ := h
  have hr1 : Room 1 _ := hr.mono (by decide)
  refine ⟨_, pss_cons (ps_set (i := 1) scLaw.nd rfl (Or.inl rfl) (pe_call GK hr1 rfl T.deck kK bK .nil pass0 (pa_cons (pv 0) pa_nil)))
    (pss_cons (ps_for PassesOwn.never rfl (pi_range1 rfl T.range (pa_cons pe_int pa_nil)) (pg_name (i := 2) scLaw.nd rfl (Or.inl rfl))
      (pss_one (ps_if (pt_not (pt_val (pe_callG GR len_ri hg hr rfl T.right kR bR .nil pass0 (pa_cons (pv 1) pa_nil)))) (pss_one (ps_ret pe_bl)) pss_nil)))
    (pss_one (ps_ret pe_bl))), ?_⟩
  refine ⟨_, rfl, a, ns, rfl, hS, h63, fun d g H1 s1 nd ng hD1 => ?_⟩
  refine ⟨4, rfl, by decide, by decide, for_range (lo := 0) (n := 4) (fun i σ H' => ∃ v2, σ = [some (.ref a), some (.ref d), v2] ∧ DeckAt H' d g) ⟨none, rfl, hD1⟩ ?_ ?_⟩
  · rintro i σ H' hi ⟨v2, rfl, hD'⟩
    refine ⟨_, rfl, d, g, rfl, hD', fun H2 hD2 k2 => ⟨_, rfl, if_fl rfl ?_⟩⟩
    exact ⟨_, rfl, hD2⟩
  · rintro σ H2 ⟨v2, rfl, hD2⟩
    exact k H2
end
end Vf

set_option Elab.async false
set_option linter.all false
set_option maxRecDepth 100000
set_option maxHeartbeats 4000000
namespace L2
namespace Vx
open PySem PySem.Spec PyProof.Rows _root_.Vx
/-! ### what the top has written of a class over Exception -/
def clsOk (K : PySem.W.Frag) (C : Addr) : Bool :=
  PySem.W.findIn K (.ref C) "__setattr__" == some (some (.builtin "object.__setattr__")) && (PySem.W.findIn K (.ref C) "__getattribute__" == some (some (.builtin "BaseException.__getattribute__")) && (PySem.W.findIn K (.ref C) "__getattr__" == some none &&
  (PySem.W.findIn K (.ref C) "__class__" == some (some (.builtin "object.__class__")) && (PySem.W.specialIn K (.builtin "object.__class__") "__get__" == some (some (.builtin "getset_descriptor.__get__")) && (PySem.W.takesIn K (.builtin "object.__class__") == some true &&
  (PySem.W.mroIn K C (.type "object") == some true && (PySem.W.subIn K (.ref C) (.type "BaseException") == some true && (PySem.W.typeIn K (.ref C) == some (.type "type") && (PySem.W.hasDictIn K C && PySem.W.keepIn K (.ref C))))))))))
theorem oexE_of {K : PySem.W.Frag} {C CP : Addr} {nm q : Str} {N : Addr} {bs : List Value} {sn : List Str} {sub : List Value} {ab : Bool} {col : Option Bool} {dd : Option Addr} {k0 k1 k2 k3 k5 : Option Value}
    (x : K.lookup C = some (excClassObj nm q C N bs [.ref CP, .type "Exception", .type "BaseException", .type "object"] true sn sub ab col dd k0 k1 k2 k3 k5 "Exception.__new__")) (h : clsOk K C = true) : OexE K C := by
  unfold clsOk at h
  obtain ⟨h1, h⟩ := Bool.and_eq_true_iff.mp h
  obtain ⟨h2, h⟩ := Bool.and_eq_true_iff.mp h
  obtain ⟨h3, h⟩ := Bool.and_eq_true_iff.mp h
  obtain ⟨h4, h⟩ := Bool.and_eq_true_iff.mp h
  obtain ⟨h5, h⟩ := Bool.and_eq_true_iff.mp h
  obtain ⟨h6, h⟩ := Bool.and_eq_true_iff.mp h
  obtain ⟨h7, h⟩ := Bool.and_eq_true_iff.mp h
  obtain ⟨h8, h⟩ := Bool.and_eq_true_iff.mp h
  obtain ⟨h9, h⟩ := Bool.and_eq_true_iff.mp h
  obtain ⟨h10, h11⟩ := Bool.and_eq_true_iff.mp h
  exact ⟨⟨nm, q, N, bs, _, sn, sub, ab, col, dd, k0, k1, k2, k3, k5, x, by rfl⟩, eq_of_beq h1, eq_of_beq h2, eq_of_beq h3, eq_of_beq h4, eq_of_beq h5, eq_of_beq h6, eq_of_beq h7, eq_of_beq h8, eq_of_beq h9, h10, h11⟩
end Vx
end L2

set_option Elab.async false
set_option linter.all false
set_option maxRecDepth 100000
set_option maxHeartbeats 4000000
namespace Vf
open PySem PySem.Spec PyProof.Rows L2 L2.Vx
section
variable {P : Program} {w : World} {K : PySem.W.Frag} {mg : Str → Option Value} {base : Heap}
theorem all_mk {l : PySem.W.OpenLaw} {h : Heap} {fa : Addr} (X : K.In h) (G : h.Ns mainGlobals mg) (hfa : mg "law" = some (.ref fa))
    {fwh : Addr} {ocwh : Value} {odwh anwh : Option Addr} {slwh : Array (Option Value)} {kVwh dcwh pmwh cdwh ctwh : Value} {fac : Addr} {ocac : Value} {odac anac : Option Addr} {slac : Array (Option Value)} {kVac dcac pmac cdac ctac : Value} {fst : Addr} {ocst : Value} {odst anst : Option Addr} {slst : Array (Option Value)} {kVst dcst pmst cdst ctst : Value} {frw : Addr} {ocrw : Value} {odrw anrw : Option Addr} {slrw : Array (Option Value)} {kVrw dcrw pmrw cdrw ctrw : Value} {frs : Addr} {ocrs : Value} {odrs anrs : Option Addr} {slrs : Array (Option Value)} {kVrs dcrs pmrs cdrs ctrs : Value} {fen : Addr} {ocen : Value} {oden anen : Option Addr} {slen : Array (Option Value)} {kVen dcen pmen cden cten : Value} {ffl : Addr} {ocfl : Value} {odfl anfl : Option Addr} {slfl : Array (Option Value)} {kVfl dcfl pmfl cdfl ctfl : Value} {fbh : Addr} {ocbh : Value} {odbh anbh : Option Addr} {slbh : Array (Option Value)} {kVbh dcbh pmbh cdbh ctbh : Value} {fsr : Addr} {ocsr : Value} {odsr ansr : Option Addr} {slsr : Array (Option Value)} {kVsr dcsr pmsr cdsr ctsr : Value} {fsa : Addr} {ocsa : Value} {odsa ansa : Option Addr} {slsa : Array (Option Value)} {kVsa dcsa pmsa cdsa ctsa : Value} {fso : Addr} {ocso : Value} {odso anso : Option Addr} {slso : Array (Option Value)} {kVso dcso pmso cdso ctso : Value} {fhi : Addr} {ochi : Value} {odhi anhi : Option Addr} {slhi : Array (Option Value)} {kVhi dchi pmhi cdhi cthi : Value} {fsp : Addr} {ocsp : Value} {odsp ansp : Option Addr} {slsp : Array (Option Value)} {kVsp dcsp pmsp cdsp ctsp : Value} {fcl : Addr} {occl : Value} {odcl ancl : Option Addr} {slcl : Array (Option Value)} {kVcl dccl pmcl cdcl ctcl : Value} {flm : Addr} {oclm : Value} {odlm anlm : Option Addr} {sllm : Array (Option Value)} {kVlm dclm pmlm cdlm ctlm : Value} {fsd : Addr} {ocsd : Value} {odsd ansd : Option Addr} {slsd : Array (Option Value)} {kVsd dcsd pmsd cdsd ctsd : Value} {fle : Addr} {ocle : Value} {odle anle : Option Addr} {slle : Array (Option Value)} {kVle dcle pmle cdle ctle : Value} {ftx : Addr} {octx : Value} {odtx antx : Option Addr} {sltx : Array (Option Value)} {kVtx dctx pmtx cdtx cttx : Value} {fnl : Addr} {ocnl : Value} {odnl annl : Option Addr} {slnl : Array (Option Value)} {kVnl dcnl pmnl cdnl ctnl : Value} {flo : Addr} {oclo : Value} {odlo anlo : Option Addr} {sllo : Array (Option Value)} {kVlo dclo pmlo cdlo ctlo : Value} {fK : Addr} {ocK : Value} {odK anK : Option Addr} {slK : Array (Option Value)} {kVK dcK pmK cdK ctK : Value} {fW : Addr} {ocW : Value} {odW anW : Option Addr} {slW : Array (Option Value)} {kVW dcW pmW cdW ctW : Value} {fS : Addr} {ocS : Value} {odS anS : Option Addr} {slS : Array (Option Value)} {kVS dcS pmS cdS ctS : Value} {fM : Addr} {ocM : Value} {odM anM : Option Addr} {slM : Array (Option Value)} {kVM dcM pmM cdM ctM : Value} {fL : Addr} {ocL : Value} {odL anL : Option Addr} {slL : Array (Option Value)} {kVL dcL pmL cdL ctL : Value} {fN : Addr} {ocN : Value} {odN anN : Option Addr} {slN : Array (Option Value)} {kVN dcN pmN cdN ctN : Value} {fV : Addr} {ocV : Value} {odV anV : Option Addr} {slV : Array (Option Value)} {kVV dcV pmV cdV ctV : Value} {fF : Addr} {ocF : Value} {odF anF : Option Addr} {slF : Array (Option Value)} {kVF dcF pmF cdF ctF : Value} {fWN : Addr} {ocWN : Value} {odWN anWN : Option Addr} {slWN : Array (Option Value)} {kVWN dcWN pmWN cdWN ctWN : Value} {fTR : Addr} {ocTR : Value} {odTR anTR : Option Addr} {slTR : Array (Option Value)} {kVTR dcTR pmTR cdTR ctTR : Value} {fIL : Addr} {ocIL : Value} {odIL anIL : Option Addr} {slIL : Array (Option Value)} {kVIL dcIL pmIL cdIL ctIL : Value} {fRU : Addr} {ocRU : Value} {odRU anRU : Option Addr} {slRU : Array (Option Value)} {kVRU dcRU pmRU cdRU ctRU : Value} {fRF : Addr} {ocRF : Value} {odRF anRF : Option Addr} {slRF : Array (Option Value)} {kVRF dcRF pmRF cdRF ctRF : Value} {fRI : Addr} {ocRI : Value} {odRI anRI : Option Addr} {slRI : Array (Option Value)} {kVRI dcRI pmRI cdRI ctRI : Value} {fX : Addr} {ocX : Value} {odX anX : Option Addr} {slX : Array (Option Value)} {kVX dcX pmX cdX ctX : Value} {LC : Addr} {fms : Addr} {ocms : Value} {odms anms : Option Addr} {slms : Array (Option Value)} {kVms dcms pmms cdms ctms : Value} {fmc : Addr} {ocmc : Value} {odmc anmc : Option Addr} {slmc : Array (Option Value)} {kVmc dcmc pmmc cdmc ctmc : Value} {fml : Addr} {ocml : Value} {odml anml : Option Addr} {slml : Array (Option Value)} {kVml dcml pmml cdml ctml : Value} {fmq : Addr} {ocmq : Value} {odmq anmq : Option Addr} {slmq : Array (Option Value)} {kVmq dcmq pmmq cdmq ctmq : Value} {fmk : Addr} {ocmk : Value} {odmk anmk : Option Addr} {slmk : Array (Option Value)} {kVmk dcmk pmmk cdmk ctmk : Value} {fmb : Addr} {ocmb : Value} {odmb anmb : Option Addr} {slmb : Array (Option Value)} {kVmb dcmb pmmb cdmb ctmb : Value} {fma : Addr} {ocma : Value} {odma anma : Option Addr} {slma : Array (Option Value)} {kVma dcma pmma cdma ctma : Value} {fme : Addr} {ocme : Value} {odme anme : Option Addr} {slme : Array (Option Value)} {kVme dcme pmme cdme ctme : Value} {fmo : Addr} {ocmo : Value} {odmo anmo : Option Addr} {slmo : Array (Option Value)} {kVmo dcmo pmmo cdmo ctmo : Value} {fmn : Addr} {ocmn : Value} {odmn anmn : Option Addr} {slmn : Array (Option Value)} {kVmn dcmn pmmn cdmn ctmn : Value} {fmu : Addr} {ocmu : Value} {odmu anmu : Option Addr} {slmu : Array (Option Value)} {kVmu dcmu pmmu cdmu ctmu : Value} {fmi : Addr} {ocmi : Value} {odmi anmi : Option Addr} {slmi : Array (Option Value)} {kVmi dcmi pmmi cdmi ctmi : Value} {fmd : Addr} {ocmd : Value} {odmd anmd : Option Addr} {slmd : Array (Option Value)} {kVmd dcmd pmmd cdmd ctmd : Value} {fmw : Addr} {ocmw : Value} {odmw anmw : Option Addr} {slmw : Array (Option Value)} {kVmw dcmw pmmw cdmw ctmw : Value} {fki : Addr} {ocki : Value} {odki anki : Option Addr} {slki : Array (Option Value)} {kVki dcki pmki cdki ctki : Value} {CErr : Addr} {CO NCO : Addr} {nmCO qnCO : Str} {bsCO : List Value} {snCO : List Str} {subCO : List Value} {abCO : Bool} {colCO : Option Bool} {ddCO : Option Addr} {k0CO k1CO k2CO k3CO k5CO : Option Value}
    (awh : PySem.W.nsIn K mainGlobals "is_whole" = some (some (.ref fwh)))
    (lwh : K.lookup fwh = some ⟨ocwh, odwh, .func (PySem.W.fnOf "is_whole" "is_whole" (defArgs sWhole) (defBody sWhole) (defScope sWhole) .none kVwh dcwh pmwh anwh cdwh ctwh), slwh⟩)
    (cwh : PySem.W.codeIn K cdwh "is_whole" = true)
    (kwh : PySem.W.keepIn K (.ref fwh) = true)
    (aac : PySem.W.nsIn K mainGlobals "is_ascending" = some (some (.ref fac)))
    (lac : K.lookup fac = some ⟨ocac, odac, .func (PySem.W.fnOf "is_ascending" "is_ascending" (defArgs sAsc) (defBody sAsc) (defScope sAsc) .none kVac dcac pmac anac cdac ctac), slac⟩)
    (cac : PySem.W.codeIn K cdac "is_ascending" = true)
    (kac : PySem.W.keepIn K (.ref fac) = true)
    (ast : PySem.W.nsIn K mainGlobals "is_state" = some (some (.ref fst)))
    (lst : K.lookup fst = some ⟨ocst, odst, .func (PySem.W.fnOf "is_state" "is_state" (defArgs sState) (defBody sState) (defScope sState) .none kVst dcst pmst anst cdst ctst), slst⟩)
    (cst : PySem.W.codeIn K cdst "is_state" = true)
    (kst : PySem.W.keepIn K (.ref fst) = true)
    (arw : PySem.W.nsIn K mainGlobals "is_row" = some (some (.ref frw)))
    (lrw : K.lookup frw = some ⟨ocrw, odrw, .func (PySem.W.fnOf "is_row" "is_row" (defArgs sRow) (defBody sRow) (defScope sRow) .none kVrw dcrw pmrw anrw cdrw ctrw), slrw⟩)
    (crw : PySem.W.codeIn K cdrw "is_row" = true)
    (krw : PySem.W.keepIn K (.ref frw) = true)
    (ars : PySem.W.nsIn K mainGlobals "is_rows" = some (some (.ref frs)))
    (lrs : K.lookup frs = some ⟨ocrs, odrs, .func (PySem.W.fnOf "is_rows" "is_rows" (defArgs sRows) (defBody sRows) (defScope sRows) .none kVrs dcrs pmrs anrs cdrs ctrs), slrs⟩)
    (crs : PySem.W.codeIn K cdrs "is_rows" = true)
    (krs : PySem.W.keepIn K (.ref frs) = true)
    (aen : PySem.W.nsIn K mainGlobals "is_ends" = some (some (.ref fen)))
    (len : K.lookup fen = some ⟨ocen, oden, .func (PySem.W.fnOf "is_ends" "is_ends" (defArgs sEnds) (defBody sEnds) (defScope sEnds) .none kVen dcen pmen anen cden cten), slen⟩)
    (cen : PySem.W.codeIn K cden "is_ends" = true)
    (ken : PySem.W.keepIn K (.ref fen) = true)
    (afl : PySem.W.nsIn K mainGlobals "end_flags" = some (some (.ref ffl)))
    (lfl : K.lookup ffl = some ⟨ocfl, odfl, .func (PySem.W.fnOf "end_flags" "end_flags" (defArgs sFlags) (defBody sFlags) (defScope sFlags) .none kVfl dcfl pmfl anfl cdfl ctfl), slfl⟩)
    (cfl : PySem.W.codeIn K cdfl "end_flags" = true)
    (kfl : PySem.W.keepIn K (.ref ffl) = true)
    (abh : PySem.W.nsIn K mainGlobals "state_behind" = some (some (.ref fbh)))
    (lbh : K.lookup fbh = some ⟨ocbh, odbh, .func (PySem.W.fnOf "state_behind" "state_behind" (defArgs sBehind) (defBody sBehind) (defScope sBehind) .none kVbh dcbh pmbh anbh cdbh ctbh), slbh⟩)
    (cbh : PySem.W.codeIn K cdbh "state_behind" = true)
    (kbh : PySem.W.keepIn K (.ref fbh) = true)
    (asr : PySem.W.nsIn K mainGlobals "states_reached" = some (some (.ref fsr)))
    (lsr : K.lookup fsr = some ⟨ocsr, odsr, .func (PySem.W.fnOf "states_reached" "states_reached" (defArgs sReach) (defBody sReach) (defScope sReach) .none kVsr dcsr pmsr ansr cdsr ctsr), slsr⟩)
    (csr : PySem.W.codeIn K cdsr "states_reached" = true)
    (ksr : PySem.W.keepIn K (.ref fsr) = true)
    (asa : PySem.W.nsIn K mainGlobals "started_at" = some (some (.ref fsa)))
    (lsa : K.lookup fsa = some ⟨ocsa, odsa, .func (PySem.W.fnOf "started_at" "started_at" (defArgs sStarted) (defBody sStarted) (defScope sStarted) .none kVsa dcsa pmsa ansa cdsa ctsa), slsa⟩)
    (csa : PySem.W.codeIn K cdsa "started_at" = true)
    (ksa : PySem.W.keepIn K (.ref fsa) = true)
    (aso : PySem.W.nsIn K mainGlobals "sources_of" = some (some (.ref fso)))
    (lso : K.lookup fso = some ⟨ocso, odso, .func (PySem.W.fnOf "sources_of" "sources_of" (defArgs sSrc) (defBody sSrc) (defScope sSrc) .none kVso dcso pmso anso cdso ctso), slso⟩)
    (cso : PySem.W.codeIn K cdso "sources_of" = true)
    (kso : PySem.W.keepIn K (.ref fso) = true)
    (ahi : PySem.W.nsIn K mainGlobals "hits_of" = some (some (.ref fhi)))
    (lhi : K.lookup fhi = some ⟨ochi, odhi, .func (PySem.W.fnOf "hits_of" "hits_of" (defArgs sHits) (defBody sHits) (defScope sHits) .none kVhi dchi pmhi anhi cdhi cthi), slhi⟩)
    (chi : PySem.W.codeIn K cdhi "hits_of" = true)
    (khi : PySem.W.keepIn K (.ref fhi) = true)
    (asp : PySem.W.nsIn K mainGlobals "smaller_part" = some (some (.ref fsp)))
    (lsp : K.lookup fsp = some ⟨ocsp, odsp, .func (PySem.W.fnOf "smaller_part" "smaller_part" (defArgs sPart) (defBody sPart) (defScope sPart) .none kVsp dcsp pmsp ansp cdsp ctsp), slsp⟩)
    (csp : PySem.W.codeIn K cdsp "smaller_part" = true)
    (ksp : PySem.W.keepIn K (.ref fsp) = true)
    (acl : PySem.W.nsIn K mainGlobals "classes_of" = some (some (.ref fcl)))
    (lcl : K.lookup fcl = some ⟨occl, odcl, .func (PySem.W.fnOf "classes_of" "classes_of" (defArgs sCls) (defBody sCls) (defScope sCls) .none kVcl dccl pmcl ancl cdcl ctcl), slcl⟩)
    (ccl : PySem.W.codeIn K cdcl "classes_of" = true)
    (kcl : PySem.W.keepIn K (.ref fcl) = true)
    (alm : PySem.W.nsIn K mainGlobals "least_machine" = some (some (.ref flm)))
    (llm : K.lookup flm = some ⟨oclm, odlm, .func (PySem.W.fnOf "least_machine" "least_machine" (defArgs sLeast) (defBody sLeast) (defScope sLeast) .none kVlm dclm pmlm anlm cdlm ctlm), sllm⟩)
    (clm : PySem.W.codeIn K cdlm "least_machine" = true)
    (klm : PySem.W.keepIn K (.ref flm) = true)
    (asd : PySem.W.nsIn K mainGlobals "side_by_side" = some (some (.ref fsd)))
    (lsd : K.lookup fsd = some ⟨ocsd, odsd, .func (PySem.W.fnOf "side_by_side" "side_by_side" (defArgs sSide) (defBody sSide) (defScope sSide) .none kVsd dcsd pmsd ansd cdsd ctsd), slsd⟩)
    (csd : PySem.W.codeIn K cdsd "side_by_side" = true)
    (ksd : PySem.W.keepIn K (.ref fsd) = true)
    (ale : PySem.W.nsIn K mainGlobals "is_letters" = some (some (.ref fle)))
    (lle : K.lookup fle = some ⟨ocle, odle, .func (PySem.W.fnOf "is_letters" "is_letters" (defArgs sLet) (defBody sLet) (defScope sLet) .none kVle dcle pmle anle cdle ctle), slle⟩)
    (cle : PySem.W.codeIn K cdle "is_letters" = true)
    (kle : PySem.W.keepIn K (.ref fle) = true)
    (atx : PySem.W.nsIn K mainGlobals "is_text" = some (some (.ref ftx)))
    (ltx : K.lookup ftx = some ⟨octx, odtx, .func (PySem.W.fnOf "is_text" "is_text" (defArgs sText) (defBody sText) (defScope sText) .none kVtx dctx pmtx antx cdtx cttx), sltx⟩)
    (ctx : PySem.W.codeIn K cdtx "is_text" = true)
    (ktx : PySem.W.keepIn K (.ref ftx) = true)
    (anl : PySem.W.nsIn K mainGlobals "numbers_line" = some (some (.ref fnl)))
    (lnl : K.lookup fnl = some ⟨ocnl, odnl, .func (PySem.W.fnOf "numbers_line" "numbers_line" (defArgs sNl) (defBody sNl) (defScope sNl) .none kVnl dcnl pmnl annl cdnl ctnl), slnl⟩)
    (cnl : PySem.W.codeIn K cdnl "numbers_line" = true)
    (knl : PySem.W.keepIn K (.ref fnl) = true)
    (alo : PySem.W.nsIn K mainGlobals "lines_of" = some (some (.ref flo)))
    (llo : K.lookup flo = some ⟨oclo, odlo, .func (PySem.W.fnOf "lines_of" "lines_of" (defArgs sLo) (defBody sLo) (defScope sLo) .none kVlo dclo pmlo anlo cdlo ctlo), sllo⟩)
    (clo : PySem.W.codeIn K cdlo "lines_of" = true)
    (klo : PySem.W.keepIn K (.ref flo) = true)
    (aK : PySem.W.nsIn K mainGlobals "_law_deck" = some (some (.ref fK)))
    (lK : K.lookup fK = some ⟨ocK, odK, .func (PySem.W.fnOf "_law_deck" "_law_deck" (defArgs sDeck) (defBody sDeck) (defScope sDeck) .none kVK dcK pmK anK cdK ctK), slK⟩)
    (cK : PySem.W.codeIn K cdK "_law_deck" = true)
    (kK : PySem.W.keepIn K (.ref fK) = true)
    (aW : PySem.W.nsIn K mainGlobals "_law_draw" = some (some (.ref fW)))
    (lW : K.lookup fW = some ⟨ocW, odW, .func (PySem.W.fnOf "_law_draw" "_law_draw" (defArgs sDraw) (defBody sDraw) (defScope sDraw) .none kVW dcW pmW anW cdW ctW), slW⟩)
    (cW : PySem.W.codeIn K cdW "_law_draw" = true)
    (kW : PySem.W.keepIn K (.ref fW) = true)
    (aS : PySem.W.nsIn K mainGlobals "_law_signs" = some (some (.ref fS)))
    (lS : K.lookup fS = some ⟨ocS, odS, .func (PySem.W.fnOf "_law_signs" "_law_signs" (defArgs sSigns) (defBody sSigns) (defScope sSigns) .none kVS dcS pmS anS cdS ctS), slS⟩)
    (cS : PySem.W.codeIn K cdS "_law_signs" = true)
    (kS : PySem.W.keepIn K (.ref fS) = true)
    (aM : PySem.W.nsIn K mainGlobals "_law_machine" = some (some (.ref fM)))
    (lM : K.lookup fM = some ⟨ocM, odM, .func (PySem.W.fnOf "_law_machine" "_law_machine" (defArgs sMach) (defBody sMach) (defScope sMach) .none kVM dcM pmM anM cdM ctM), slM⟩)
    (cM : PySem.W.codeIn K cdM "_law_machine" = true)
    (kM : PySem.W.keepIn K (.ref fM) = true)
    (aL : PySem.W.nsIn K mainGlobals "_law_led" = some (some (.ref fL)))
    (lL : K.lookup fL = some ⟨ocL, odL, .func (PySem.W.fnOf "_law_led" "_law_led" (defArgs sLed) (defBody sLed) (defScope sLed) .none kVL dcL pmL anL cdL ctL), slL⟩)
    (cL : PySem.W.codeIn K cdL "_law_led" = true)
    (kL : PySem.W.keepIn K (.ref fL) = true)
    (aN : PySem.W.nsIn K mainGlobals "_law_is_in" = some (some (.ref fN)))
    (lN : K.lookup fN = some ⟨ocN, odN, .func (PySem.W.fnOf "_law_is_in" "_law_is_in" (defArgs sIsIn) (defBody sIsIn) (defScope sIsIn) .none kVN dcN pmN anN cdN ctN), slN⟩)
    (cN : PySem.W.codeIn K cdN "_law_is_in" = true)
    (kN : PySem.W.keepIn K (.ref fN) = true)
    (aV : PySem.W.nsIn K mainGlobals "_law_every" = some (some (.ref fV)))
    (lV : K.lookup fV = some ⟨ocV, odV, .func (PySem.W.fnOf "_law_every" "_law_every" (defArgs sEvery) (defBody sEvery) (defScope sEvery) .none kVV dcV pmV anV cdV ctV), slV⟩)
    (cV : PySem.W.codeIn K cdV "_law_every" = true)
    (kV : PySem.W.keepIn K (.ref fV) = true)
    (aF : PySem.W.nsIn K mainGlobals "_law_far" = some (some (.ref fF)))
    (lF : K.lookup fF = some ⟨ocF, odF, .func (PySem.W.fnOf "_law_far" "_law_far" (defArgs sFar) (defBody sFar) (defScope sFar) .none kVF dcF pmF anF cdF ctF), slF⟩)
    (cF : PySem.W.codeIn K cdF "_law_far" = true)
    (kF : PySem.W.keepIn K (.ref fF) = true)
    (aWN : PySem.W.nsIn K mainGlobals "_law_is_within" = some (some (.ref fWN)))
    (lWN : K.lookup fWN = some ⟨ocWN, odWN, .func (PySem.W.fnOf "_law_is_within" "_law_is_within" (defArgs sWin) (defBody sWin) (defScope sWin) .none kVWN dcWN pmWN anWN cdWN ctWN), slWN⟩)
    (cWN : PySem.W.codeIn K cdWN "_law_is_within" = true)
    (kWN : PySem.W.keepIn K (.ref fWN) = true)
    (aTR : PySem.W.nsIn K mainGlobals "_law_texts_right" = some (some (.ref fTR)))
    (lTR : K.lookup fTR = some ⟨ocTR, odTR, .func (PySem.W.fnOf "_law_texts_right" "_law_texts_right" (defArgs sTr) (defBody sTr) (defScope sTr) .none kVTR dcTR pmTR anTR cdTR ctTR), slTR⟩)
    (cTR : PySem.W.codeIn K cdTR "_law_texts_right" = true)
    (kTR : PySem.W.keepIn K (.ref fTR) = true)
    (aIL : PySem.W.nsIn K mainGlobals "_law_is_least" = some (some (.ref fIL)))
    (lIL : K.lookup fIL = some ⟨ocIL, odIL, .func (PySem.W.fnOf "_law_is_least" "_law_is_least" (defArgs sIl) (defBody sIl) (defScope sIl) .none kVIL dcIL pmIL anIL cdIL ctIL), slIL⟩)
    (cIL : PySem.W.codeIn K cdIL "_law_is_least" = true)
    (kIL : PySem.W.keepIn K (.ref fIL) = true)
    (aRU : PySem.W.nsIn K mainGlobals "_law_rules_right" = some (some (.ref fRU)))
    (lRU : K.lookup fRU = some ⟨ocRU, odRU, .func (PySem.W.fnOf "_law_rules_right" "_law_rules_right" (defArgs sRu) (defBody sRu) (defScope sRu) .none kVRU dcRU pmRU anRU cdRU ctRU), slRU⟩)
    (cRU : PySem.W.codeIn K cdRU "_law_rules_right" = true)
    (kRU : PySem.W.keepIn K (.ref fRU) = true)
    (aRF : PySem.W.nsIn K mainGlobals "_law_refused" = some (some (.ref fRF)))
    (lRF : K.lookup fRF = some ⟨ocRF, odRF, .func (PySem.W.fnOf "_law_refused" "_law_refused" (defArgs sRef) (defBody sRef) (defScope sRef) .none kVRF dcRF pmRF anRF cdRF ctRF), slRF⟩)
    (cRF : PySem.W.codeIn K cdRF "_law_refused" = true)
    (kRF : PySem.W.keepIn K (.ref fRF) = true)
    (aRI : PySem.W.nsIn K mainGlobals "_law_right" = some (some (.ref fRI)))
    (lRI : K.lookup fRI = some ⟨ocRI, odRI, .func (PySem.W.fnOf "_law_right" "_law_right" (defArgs sRi) (defBody sRi) (defScope sRi) .none kVRI dcRI pmRI anRI cdRI ctRI), slRI⟩)
    (cRI : PySem.W.codeIn K cdRI "_law_right" = true)
    (kRI : PySem.W.keepIn K (.ref fRI) = true)
    (aX : PySem.W.nsIn K mainGlobals "law" = some (some (.ref fX)))
    (lX : K.lookup fX = some ⟨ocX, odX, .func (PySem.W.fnOf "law" "law" (defArgs sLaw) (defBody sLaw) (defScope sLaw) .none kVX dcX pmX anX cdX ctX), slX⟩)
    (cX : PySem.W.codeIn K cdX "law" = true)
    (kX : PySem.W.keepIn K (.ref fX) = true)
    (aLC : PySem.W.nsIn K mainGlobals "Language" = some (some (.ref LC)))
    (pgLC : PySem.W.plainGet K LC Str.empty = true)
    (hdLC : PySem.W.hasDictIn K LC = true)
    (poLC : PySem.W.plainOver K LC = true)
    (saLC : PySem.W.findIn K (.ref LC) "__setattr__" = some (some (.builtin "object.__setattr__")))
    (nLCletters : PySem.W.findIn K (.ref LC) "letters" = some none)
    (nLCrows : PySem.W.findIn K (.ref LC) "rows" = some none)
    (nLCends : PySem.W.findIn K (.ref LC) "ends" = some none)
    (ams : PySem.W.findIn K (.ref LC) "__str__" = some (some (.ref fms)))
    (ims : PySem.W.isFn K (.ref fms) = true)
    (lms : K.lookup fms = some ⟨ocms, odms, .func (PySem.W.fnOf "__str__" "Language.__str__" (defArgs sLStr) (defBody sLStr) (defScope sLStr) .none kVms dcms pmms anms cdms ctms), slms⟩)
    (cms : PySem.W.codeIn K cdms "Language.__str__" = true)
    (kms : PySem.W.keepIn K (.ref fms) = true)
    (amc : PySem.W.findIn K (.ref LC) "__contains__" = some (some (.ref fmc)))
    (imc : PySem.W.isFn K (.ref fmc) = true)
    (lmc : K.lookup fmc = some ⟨ocmc, odmc, .func (PySem.W.fnOf "__contains__" "Language.__contains__" (defArgs sLIn) (defBody sLIn) (defScope sLIn) .none kVmc dcmc pmmc anmc cdmc ctmc), slmc⟩)
    (cmc : PySem.W.codeIn K cdmc "Language.__contains__" = true)
    (kmc : PySem.W.keepIn K (.ref fmc) = true)
    (aml : PySem.W.findIn K (.ref LC) "__len__" = some (some (.ref fml)))
    (iml : PySem.W.isFn K (.ref fml) = true)
    (lml : K.lookup fml = some ⟨ocml, odml, .func (PySem.W.fnOf "__len__" "Language.__len__" (defArgs sLLen) (defBody sLLen) (defScope sLLen) .none kVml dcml pmml anml cdml ctml), slml⟩)
    (cml : PySem.W.codeIn K cdml "Language.__len__" = true)
    (kml : PySem.W.keepIn K (.ref fml) = true)
    (amq : PySem.W.findIn K (.ref LC) "__eq__" = some (some (.ref fmq)))
    (imq : PySem.W.isFn K (.ref fmq) = true)
    (lmq : K.lookup fmq = some ⟨ocmq, odmq, .func (PySem.W.fnOf "__eq__" "Language.__eq__" (defArgs sLEq) (defBody sLEq) (defScope sLEq) .none kVmq dcmq pmmq anmq cdmq ctmq), slmq⟩)
    (cmq : PySem.W.codeIn K cdmq "Language.__eq__" = true)
    (kmq : PySem.W.keepIn K (.ref fmq) = true)
    (amk : PySem.W.findIn K (.ref LC) "_check_letters" = some (some (.ref fmk)))
    (imk : PySem.W.isFn K (.ref fmk) = true)
    (lmk : K.lookup fmk = some ⟨ocmk, odmk, .func (PySem.W.fnOf "_check_letters" "Language._check_letters" (defArgs sChk) (defBody sChk) (defScope sChk) .none kVmk dcmk pmmk anmk cdmk ctmk), slmk⟩)
    (cmk : PySem.W.codeIn K cdmk "Language._check_letters" = true)
    (kmk : PySem.W.keepIn K (.ref fmk) = true)
    (amb : PySem.W.findIn K (.ref LC) "_beside" = some (some (.ref fmb)))
    (imb : PySem.W.isFn K (.ref fmb) = true)
    (lmb : K.lookup fmb = some ⟨ocmb, odmb, .func (PySem.W.fnOf "_beside" "Language._beside" (defArgs sBes) (defBody sBes) (defScope sBes) .none kVmb dcmb pmmb anmb cdmb ctmb), slmb⟩)
    (cmb : PySem.W.codeIn K cdmb "Language._beside" = true)
    (kmb : PySem.W.keepIn K (.ref fmb) = true)
    (ama : PySem.W.findIn K (.ref LC) "_answered" = some (some (.ref fma)))
    (ima : PySem.W.isFn K (.ref fma) = true)
    (lma : K.lookup fma = some ⟨ocma, odma, .func (PySem.W.fnOf "_answered" "Language._answered" (defArgs sAns) (defBody sAns) (defScope sAns) .none kVma dcma pmma anma cdma ctma), slma⟩)
    (cma : PySem.W.codeIn K cdma "Language._answered" = true)
    (kma : PySem.W.keepIn K (.ref fma) = true)
    (ame : PySem.W.findIn K (.ref LC) "__le__" = some (some (.ref fme)))
    (ime : PySem.W.isFn K (.ref fme) = true)
    (lme : K.lookup fme = some ⟨ocme, odme, .func (PySem.W.fnOf "__le__" "Language.__le__" (defArgs sLe) (defBody sLe) (defScope sLe) .none kVme dcme pmme anme cdme ctme), slme⟩)
    (cme : PySem.W.codeIn K cdme "Language.__le__" = true)
    (kme : PySem.W.keepIn K (.ref fme) = true)
    (amo : PySem.W.findIn K (.ref LC) "__or__" = some (some (.ref fmo)))
    (imo : PySem.W.isFn K (.ref fmo) = true)
    (lmo : K.lookup fmo = some ⟨ocmo, odmo, .func (PySem.W.fnOf "__or__" "Language.__or__" (defArgs sOr) (defBody sOr) (defScope sOr) .none kVmo dcmo pmmo anmo cdmo ctmo), slmo⟩)
    (cmo : PySem.W.codeIn K cdmo "Language.__or__" = true)
    (kmo : PySem.W.keepIn K (.ref fmo) = true)
    (amn : PySem.W.findIn K (.ref LC) "__and__" = some (some (.ref fmn)))
    (imn : PySem.W.isFn K (.ref fmn) = true)
    (lmn : K.lookup fmn = some ⟨ocmn, odmn, .func (PySem.W.fnOf "__and__" "Language.__and__" (defArgs sAnd) (defBody sAnd) (defScope sAnd) .none kVmn dcmn pmmn anmn cdmn ctmn), slmn⟩)
    (cmn : PySem.W.codeIn K cdmn "Language.__and__" = true)
    (kmn : PySem.W.keepIn K (.ref fmn) = true)
    (amu : PySem.W.findIn K (.ref LC) "__sub__" = some (some (.ref fmu)))
    (imu : PySem.W.isFn K (.ref fmu) = true)
    (lmu : K.lookup fmu = some ⟨ocmu, odmu, .func (PySem.W.fnOf "__sub__" "Language.__sub__" (defArgs sSub) (defBody sSub) (defScope sSub) .none kVmu dcmu pmmu anmu cdmu ctmu), slmu⟩)
    (cmu : PySem.W.codeIn K cdmu "Language.__sub__" = true)
    (kmu : PySem.W.keepIn K (.ref fmu) = true)
    (ami : PySem.W.findIn K (.ref LC) "__invert__" = some (some (.ref fmi)))
    (imi : PySem.W.isFn K (.ref fmi) = true)
    (lmi : K.lookup fmi = some ⟨ocmi, odmi, .func (PySem.W.fnOf "__invert__" "Language.__invert__" (defArgs sInv) (defBody sInv) (defScope sInv) .none kVmi dcmi pmmi anmi cdmi ctmi), slmi⟩)
    (cmi : PySem.W.codeIn K cdmi "Language.__invert__" = true)
    (kmi : PySem.W.keepIn K (.ref fmi) = true)
    (amd : PySem.W.findIn K (.ref LC) "__add__" = some (some (.ref fmd)))
    (imd : PySem.W.isFn K (.ref fmd) = true)
    (lmd : K.lookup fmd = some ⟨ocmd, odmd, .func (PySem.W.fnOf "__add__" "Language.__add__" (defArgs sAdd) (defBody sAdd) (defScope sAdd) .none kVmd dcmd pmmd anmd cdmd ctmd), slmd⟩)
    (cmd : PySem.W.codeIn K cdmd "Language.__add__" = true)
    (kmd : PySem.W.keepIn K (.ref fmd) = true)
    (amw : PySem.W.findIn K (.ref LC) "with_letters" = some (some (.ref fmw)))
    (imw : PySem.W.isFn K (.ref fmw) = true)
    (lmw : K.lookup fmw = some ⟨ocmw, odmw, .func (PySem.W.fnOf "with_letters" "Language.with_letters" (defArgs sWit) (defBody sWit) (defScope sWit) .none kVmw dcmw pmmw anmw cdmw ctmw), slmw⟩)
    (cmw : PySem.W.codeIn K cdmw "Language.with_letters" = true)
    (kmw : PySem.W.keepIn K (.ref fmw) = true)
    (aki : PySem.W.findIn K (.ref LC) "__init__" = some (some (.ref fki)))
    (iki : PySem.W.isFn K (.ref fki) = true)
    (mkLC : PySem.W.makesIn K LC = true)
    (kpLC : PySem.W.keepIn K (.ref LC) = true)
    (lki : K.lookup fki = some ⟨ocki, odki, .func (PySem.W.fnOf "__init__" "Language.__init__" (defArgs sLInit) (defBody sLInit) (defScope sLInit) .none kVki dcki pmki anki cdki ctki), slki⟩)
    (cki : PySem.W.codeIn K cdki "Language.__init__" = true)
    (kki : PySem.W.keepIn K (.ref fki) = true)
    (caL : PySem.W.findIn K (.ref LC) "__class__" = some (some (.builtin "object.__class__")))
    (cnL : PySem.W.specialIn K (.builtin "object.__class__") "__get__" = some (some (.builtin "getset_descriptor.__get__")))
    (ctL : PySem.W.takesIn K (.builtin "object.__class__") = some true)
    (cmL : PySem.W.mroIn K LC (.type "object") = some true)
    (neL : PySem.W.findIn K (.ref LC) "__ne__" = some (some (.builtin "object.__ne__")))
    (aCErr : PySem.W.nsIn K mainGlobals "PieceError" = some (some (.ref CErr)))
    (aCO : PySem.W.nsIn K mainGlobals "OtherLetters" = some (some (.ref CO)))
    (xCO : K.lookup CO = some (excClassObj nmCO qnCO CO NCO bsCO [.ref CErr, .type "Exception", .type "BaseException", .type "object"] true snCO subCO abCO colCO ddCO k0CO k1CO k2CO k3CO k5CO "Exception.__new__"))
    (oKCO : L2.Vx.clsOk K CO = true)
    (iICO : PySem.W.findIn K (.ref CO) "__init__" = some (some (.builtin "Exception.__init__")))
    (kll : (PySem.W.kitOne K (.ref LC) (.ref LC) == some true) = true)
    (koo : (PySem.W.exmOne K (.ref CO) (.ref CO) == some true) = true)
    (kop : (PySem.W.kitOne K (.ref CO) (.ref CErr) == some true) = true)
    (sfL : PySem.W.selfFirst K LC = true)
    (z_list : PySem.W.nsIn K mainGlobals "list" = some none)
    (z_int : PySem.W.nsIn K mainGlobals "int" = some none)
    (z_len : PySem.W.nsIn K mainGlobals "len" = some none)
    (z_tuple : PySem.W.nsIn K mainGlobals "tuple" = some none)
    (z_enumerate : PySem.W.nsIn K mainGlobals "enumerate" = some none)
    (z_range : PySem.W.nsIn K mainGlobals "range" = some none)
    (z_isinstance : PySem.W.nsIn K mainGlobals "isinstance" = some none)
    (z_bool : PySem.W.nsIn K mainGlobals "bool" = some none)
    (z_all : PySem.W.nsIn K mainGlobals "all" = some none)
    (z_zip : PySem.W.nsIn K mainGlobals "zip" = some none)
    (z_str : PySem.W.nsIn K mainGlobals "str" = some none)
    (z_sorted : PySem.W.nsIn K mainGlobals "sorted" = some none)
    (z_set : PySem.W.nsIn K mainGlobals "set" = some none)
    (z_repr : PySem.W.nsIn K mainGlobals "repr" = some none) :
    ∃ fd : FuncData, (∀ (s : Shared) (v : Value), BindsTo s fd ⟨[v], []⟩ [("_law_script", v)]) ∧ ∀ base : Heap, K.In base → base.Ns mainGlobals mg → FnG l.prog w K mg base 11 fa fd ["_law_script"] (spLaw K) := by
  have e := hfa.symm.trans (PySem.W.mg_of X G aX)
  cases e
  have Fwh := fun_mk (st := sWhole) lwh cwh kwh
  have bwh := Fwh.binds (ps := ["thing"]) fun _ _ _ _ _ _ us hl => match us, hl with | [_], _ => rfl
  have gwh := PySem.W.mg_of X G awh
  have Fac := fun_mk (st := sAsc) lac cac kac
  have bac := Fac.binds (ps := ["things"]) fun _ _ _ _ _ _ us hl => match us, hl with | [_], _ => rfl
  have gac := PySem.W.mg_of X G aac
  have Fst := fun_mk (st := sState) lst cst kst
  have bst := Fst.binds (ps := ["thing", "many"]) fun _ _ _ _ _ _ us hl => match us, hl with | [_, _], _ => rfl
  have gst := PySem.W.mg_of X G ast
  have Frw := fun_mk (st := sRow) lrw crw krw
  have brw := Frw.binds (ps := ["thing", "width", "many"]) fun _ _ _ _ _ _ us hl => match us, hl with | [_, _, _], _ => rfl
  have grw := PySem.W.mg_of X G arw
  have Frs := fun_mk (st := sRows) lrs crs krs
  have brs := Frs.binds (ps := ["thing", "width"]) fun _ _ _ _ _ _ us hl => match us, hl with | [_, _], _ => rfl
  have grs := PySem.W.mg_of X G ars
  have Fen := fun_mk (st := sEnds) len cen ken
  have ben := Fen.binds (ps := ["thing", "many"]) fun _ _ _ _ _ _ us hl => match us, hl with | [_, _], _ => rfl
  have gen := PySem.W.mg_of X G aen
  have Ffl := fun_mk (st := sFlags) lfl cfl kfl
  have bfl := Ffl.binds (ps := ["many", "ends"]) fun _ _ _ _ _ _ us hl => match us, hl with | [_, _], _ => rfl
  have gfl := PySem.W.mg_of X G afl
  have Fbh := fun_mk (st := sBehind) lbh cbh kbh
  have bbh := Fbh.binds (ps := ["letters", "rows", "state", "text"]) fun _ _ _ _ _ _ us hl => match us, hl with | [_, _, _, _], _ => rfl
  have gbh := PySem.W.mg_of X G abh
  have Fsr := fun_mk (st := sReach) lsr csr ksr
  have bsr := Fsr.binds (ps := ["rows", "start"]) fun _ _ _ _ _ _ us hl => match us, hl with | [_, _], _ => rfl
  have gsr := PySem.W.mg_of X G asr
  have Fsa := fun_mk (st := sStarted) lsa csa ksa
  have bsa := Fsa.binds (ps := ["rows", "ends", "start"]) fun _ _ _ _ _ _ us hl => match us, hl with | [_, _, _], _ => rfl
  have gsa := PySem.W.mg_of X G asa
  have Fso := fun_mk (st := sSrc) lso cso kso
  have bso := Fso.binds (ps := ["rows", "at"]) fun _ _ _ _ _ _ us hl => match us, hl with | [_, _], _ => rfl
  have gso := PySem.W.mg_of X G aso
  have Fhi := fun_mk (st := sHits) lhi chi khi
  have bhi := Fhi.binds (ps := ["sources", "inside", "classes"]) fun _ _ _ _ _ _ us hl => match us, hl with | [_, _, _], _ => rfl
  have ghi := PySem.W.mg_of X G ahi
  have Fsp := fun_mk (st := sPart) lsp csp ksp
  have bsp := Fsp.binds (ps := ["states", "some"]) fun _ _ _ _ _ _ us hl => match us, hl with | [_, _], _ => rfl
  have gsp := PySem.W.mg_of X G asp
  have Fcl := fun_mk (st := sCls) lcl ccl kcl
  have bcl := Fcl.binds (ps := ["rows", "ends"]) fun _ _ _ _ _ _ us hl => match us, hl with | [_, _], _ => rfl
  have gcl := PySem.W.mg_of X G acl
  have Flm := fun_mk (st := sLeast) llm clm klm
  have blm := Flm.binds (ps := ["rows", "ends"]) fun _ _ _ _ _ _ us hl => match us, hl with | [_, _], _ => rfl
  have glm := PySem.W.mg_of X G alm
  have Fsd := fun_mk (st := sSide) lsd csd ksd
  have bsd := Fsd.binds (ps := ["rows", "others"]) fun _ _ _ _ _ _ us hl => match us, hl with | [_, _], _ => rfl
  have gsd := PySem.W.mg_of X G asd
  have Fle := fun_mk (st := sLet) lle cle kle
  have ble := Fle.binds (ps := ["thing"]) fun _ _ _ _ _ _ us hl => match us, hl with | [_], _ => rfl
  have gle := PySem.W.mg_of X G ale
  have Ftx := fun_mk (st := sText) ltx ctx ktx
  have btx := Ftx.binds (ps := ["letters", "thing"]) fun _ _ _ _ _ _ us hl => match us, hl with | [_, _], _ => rfl
  have gtx := PySem.W.mg_of X G atx
  have Fnl := fun_mk (st := sNl) lnl cnl knl
  have bnl := Fnl.binds (ps := ["numbers"]) fun _ _ _ _ _ _ us hl => match us, hl with | [_], _ => rfl
  have gnl := PySem.W.mg_of X G anl
  have Flo := fun_mk (st := sLo) llo clo klo
  have blo := Flo.binds (ps := ["letters", "rows", "ends"]) fun _ _ _ _ _ _ us hl => match us, hl with | [_, _, _], _ => rfl
  have glo := PySem.W.mg_of X G alo
  have FK := fun_mk (st := sDeck) lK cK kK
  have bK := FK.binds (ps := ["_law_script"]) fun _ _ _ _ _ _ us hl => match us, hl with | [_], _ => rfl
  have gK := PySem.W.mg_of X G aK
  have FW := fun_mk (st := sDraw) lW cW kW
  have bW := FW.binds (ps := ["_law_deck_here", "_law_below"]) fun _ _ _ _ _ _ us hl => match us, hl with | [_, _], _ => rfl
  have gW := PySem.W.mg_of X G aW
  have FS := fun_mk (st := sSigns) lS cS kS
  have bS := FS.binds (ps := ["_law_deck_here", "_law_limit"]) fun _ _ _ _ _ _ us hl => match us, hl with | [_, _], _ => rfl
  have gS := PySem.W.mg_of X G aS
  have FM := fun_mk (st := sMach) lM cM kM
  have bM := FM.binds (ps := ["_law_deck_here", "_law_signs_here", "_law_size"]) fun _ _ _ _ _ _ us hl => match us, hl with | [_, _, _], _ => rfl
  have gM := PySem.W.mg_of X G aM
  have FL := fun_mk (st := sLed) lL cL kL
  have bL := FL.binds (ps := ["_law_signs_here", "_law_lines", "_law_word", "_law_at"]) fun _ _ _ _ _ _ us hl => match us, hl with | [_, _, _, _], _ => rfl
  have gL := PySem.W.mg_of X G aL
  have FN := fun_mk (st := sIsIn) lN cN kN
  have bN := FN.binds (ps := ["_law_signs_here", "_law_made", "_law_word"]) fun _ _ _ _ _ _ us hl => match us, hl with | [_, _, _], _ => rfl
  have gN := PySem.W.mg_of X G aN
  have FV := fun_mk (st := sEvery) lV cV kV
  have bV := FV.binds (ps := ["_law_signs_here", "_law_far_here"]) fun _ _ _ _ _ _ us hl => match us, hl with | [_, _], _ => rfl
  have gV := PySem.W.mg_of X G aV
  have FF := fun_mk (st := sFar) lF cF kF
  have bF := FF.binds (ps := ["_law_signs_here"]) fun _ _ _ _ _ _ us hl => match us, hl with | [_], _ => rfl
  have gF := PySem.W.mg_of X G aF
  have FWN := fun_mk (st := sWin) lWN cWN kWN
  have bWN := FWN.binds (ps := ["_law_made", "_law_mate"]) fun _ _ _ _ _ _ us hl => match us, hl with | [_, _], _ => rfl
  have gWN := PySem.W.mg_of X G aWN
  have FTR := fun_mk (st := sTr) lTR cTR kTR
  have bTR := FTR.binds (ps := ["_law_signs_here", "_law_parts", "_law_codes"]) fun _ _ _ _ _ _ us hl => match us, hl with | [_, _, _], _ => rfl
  have gTR := PySem.W.mg_of X G aTR
  have FIL := fun_mk (st := sIl) lIL cIL kIL
  have bIL := FIL.binds (ps := ["_law_signs_here", "_law_made"]) fun _ _ _ _ _ _ us hl => match us, hl with | [_, _], _ => rfl
  have gIL := PySem.W.mg_of X G aIL
  have FRU := fun_mk (st := sRu) lRU cRU kRU
  have bRU := FRU.binds (ps := ["_law_one", "_law_two", "_law_three"]) fun _ _ _ _ _ _ us hl => match us, hl with | [_, _, _], _ => rfl
  have gRU := PySem.W.mg_of X G aRU
  have FRF := fun_mk (st := sRef) lRF cRF kRF
  have bRF := FRF.binds (ps := ["_law_word", "_law_one", "_law_two"]) fun _ _ _ _ _ _ us hl => match us, hl with | [_, _, _], _ => rfl
  have gRF := PySem.W.mg_of X G aRF
  have FRI := fun_mk (st := sRi) lRI cRI kRI
  have bRI := FRI.binds (ps := ["_law_deck_here"]) fun _ _ _ _ _ _ us hl => match us, hl with | [_], _ => rfl
  have gRI := PySem.W.mg_of X G aRI
  have FX := fun_mk (st := sLaw) lX cX kX
  have gX := PySem.W.mg_of X G aX
  have n_list := PySem.W.mg_none_of X G z_list
  have n_int := PySem.W.mg_none_of X G z_int
  have n_len := PySem.W.mg_none_of X G z_len
  have n_tuple := PySem.W.mg_none_of X G z_tuple
  have n_enumerate := PySem.W.mg_none_of X G z_enumerate
  have n_range := PySem.W.mg_none_of X G z_range
  have n_isinstance := PySem.W.mg_none_of X G z_isinstance
  have n_bool := PySem.W.mg_none_of X G z_bool
  have n_all := PySem.W.mg_none_of X G z_all
  have n_zip := PySem.W.mg_none_of X G z_zip
  have n_str := PySem.W.mg_none_of X G z_str
  have n_sorted := PySem.W.mg_none_of X G z_sorted
  have n_set := PySem.W.mg_none_of X G z_set
  have n_repr := PySem.W.mg_none_of X G z_repr
  have TLC : Cls K LC := ⟨pgLC, hdLC, poLC, saLC⟩
  have gLC := PySem.W.mg_of X G aLC
  have Fms := fun_mk (st := sLStr) lms cms kms
  have bms := Fms.binds (ps := ["self"]) fun _ _ _ _ _ _ us hl => match us, hl with | [_], _ => rfl
  have mms : Meth K LC "__str__" fms := ⟨ams, ims, kms⟩
  have Fmc := fun_mk (st := sLIn) lmc cmc kmc
  have bmc := Fmc.binds (ps := ["self", "text"]) fun _ _ _ _ _ _ us hl => match us, hl with | [_, _], _ => rfl
  have mmc : Meth K LC "__contains__" fmc := ⟨amc, imc, kmc⟩
  have Fml := fun_mk (st := sLLen) lml cml kml
  have bml := Fml.binds (ps := ["self"]) fun _ _ _ _ _ _ us hl => match us, hl with | [_], _ => rfl
  have mml : Meth K LC "__len__" fml := ⟨aml, iml, kml⟩
  have Fmq := fun_mk (st := sLEq) lmq cmq kmq
  have bmq := Fmq.binds (ps := ["self", "other"]) fun _ _ _ _ _ _ us hl => match us, hl with | [_, _], _ => rfl
  have mmq : Meth K LC "__eq__" fmq := ⟨amq, imq, kmq⟩
  have Fmk := fun_mk (st := sChk) lmk cmk kmk
  have bmk := Fmk.binds (ps := ["self", "other"]) fun _ _ _ _ _ _ us hl => match us, hl with | [_, _], _ => rfl
  have mmk : Meth K LC "_check_letters" fmk := ⟨amk, imk, kmk⟩
  have Fmb := fun_mk (st := sBes) lmb cmb kmb
  have bmb := Fmb.binds (ps := ["self", "other"]) fun _ _ _ _ _ _ us hl => match us, hl with | [_, _], _ => rfl
  have mmb : Meth K LC "_beside" fmb := ⟨amb, imb, kmb⟩
  have Fma := fun_mk (st := sAns) lma cma kma
  have bma := Fma.binds (ps := ["self", "other", "wanted"]) fun _ _ _ _ _ _ us hl => match us, hl with | [_, _, _], _ => rfl
  have mma : Meth K LC "_answered" fma := ⟨ama, ima, kma⟩
  have Fme := fun_mk (st := sLe) lme cme kme
  have bme := Fme.binds (ps := ["self", "other"]) fun _ _ _ _ _ _ us hl => match us, hl with | [_, _], _ => rfl
  have mme : Meth K LC "__le__" fme := ⟨ame, ime, kme⟩
  have Fmo := fun_mk (st := sOr) lmo cmo kmo
  have bmo := Fmo.binds (ps := ["self", "other"]) fun _ _ _ _ _ _ us hl => match us, hl with | [_, _], _ => rfl
  have mmo : Meth K LC "__or__" fmo := ⟨amo, imo, kmo⟩
  have Fmn := fun_mk (st := sAnd) lmn cmn kmn
  have bmn := Fmn.binds (ps := ["self", "other"]) fun _ _ _ _ _ _ us hl => match us, hl with | [_, _], _ => rfl
  have mmn : Meth K LC "__and__" fmn := ⟨amn, imn, kmn⟩
  have Fmu := fun_mk (st := sSub) lmu cmu kmu
  have bmu := Fmu.binds (ps := ["self", "other"]) fun _ _ _ _ _ _ us hl => match us, hl with | [_, _], _ => rfl
  have mmu : Meth K LC "__sub__" fmu := ⟨amu, imu, kmu⟩
  have Fmi := fun_mk (st := sInv) lmi cmi kmi
  have bmi := Fmi.binds (ps := ["self"]) fun _ _ _ _ _ _ us hl => match us, hl with | [_], _ => rfl
  have mmi : Meth K LC "__invert__" fmi := ⟨ami, imi, kmi⟩
  have Fmd := fun_mk (st := sAdd) lmd cmd kmd
  have bmd := Fmd.binds (ps := ["self", "other"]) fun _ _ _ _ _ _ us hl => match us, hl with | [_, _], _ => rfl
  have mmd : Meth K LC "__add__" fmd := ⟨amd, imd, kmd⟩
  have Fmw := fun_mk (st := sWit) lmw cmw kmw
  have bmw := Fmw.binds (ps := ["self", "letters"]) fun _ _ _ _ _ _ us hl => match us, hl with | [_, _], _ => rfl
  have mmw : Meth K LC "with_letters" fmw := ⟨amw, imw, kmw⟩
  have MLC : Mk K LC fki := ⟨mkLC, aki, iki, kpLC⟩
  have Fki := fun_mk (st := sLInit) lki cki kki
  have bki := Fki.binds (ps := ["self", "letters", "rows", "ends"]) fun _ _ _ _ _ _ us hl => match us, hl with | [_, _, _, _], _ => rfl
  have gCErr := PySem.W.mg_of X G aCErr
  have gCO := PySem.W.mg_of X G aCO
  have x_CO := L2.Vx.oexE_of xCO oKCO
  have zCO : L2.Vx.Ex0 K CO := ⟨x_CO, iICO⟩
  refine ⟨PySem.W.fnOf "law" "law" (defArgs sLaw) (defBody sLaw) (defScope sLaw) .none kVX dcX pmX anX cdX ctX, fun s v => .of_eq rfl, fun base _ _ => ?_⟩
  have TD : TxtD mg fW := ⟨n_list, n_int, n_len, gW⟩
  have TM : TxtM mg := ⟨n_len, n_tuple, n_enumerate, n_range, n_int, n_list⟩
  have TI : TxtI mg := ⟨n_isinstance, n_int, n_bool, n_tuple, n_len, n_all⟩
  have TR : TxtR mg := ⟨n_all, n_isinstance, n_tuple, n_len⟩
  have TZ : TxtZ mg := ⟨n_all, n_zip⟩
  have TA : TxtA mg fac := ⟨n_all, n_zip, n_isinstance, n_str, n_len, gac⟩
  have TS : TxtS mg fW := { toTxtD := TD, range := n_range, sorted := n_sorted, set := n_set }
  have TMa : TxtMa mg fW := ⟨gW, n_range, n_tuple⟩
  have TW : TxtW mg := ⟨n_len, n_range⟩
  have TNl : TxtNl mg := ⟨n_str⟩
  have TLg : TxtLg K mg LC := ⟨TLC, nLCletters, nLCrows, nLCends, n_len⟩
  have TLq : TxtLq K mg LC := { toTxtLg := TLg, isi := n_isinstance, gL := gLC, own := eq_of_beq kll, ha := caL, hn := cnL, htk := ctL, hm := cmL }
  have TO : TxtO K mg LC CO := { toTxtLg := TLg, z := zCO, gO := gCO, zip := n_zip, tuple := n_tuple, enu := n_enumerate }
  have TWn : TxtWn mg := ⟨n_list, n_zip⟩
  have TIl : TxtIl K mg LC := { toTxtLq := TLq, rep := n_repr }
  have TTr : TxtTr mg fV fF fN fIL := ⟨gV, gF, gN, gIL⟩
  have TRf : TxtRf K mg LC CO CErr := { toTxtO := TO, isi := n_isinstance, gP := gCErr, eOO := eq_of_beq koo, eOP := eq_of_beq kop, vP := .own CErr }
  have TRi : TxtRi K mg LC fS fM fTR fRU fWN fRF := { toTxtLq := TLq, signs := gS, mach := gM, texts := gTR, rules := gRU, within := gWN, refused := gRF, range := n_range, rep := n_repr, str := n_str, ne := neL }
  have TLw : TxtLaw mg fK fRI := ⟨gK, gRI, n_range⟩
  have hOr : PySem.W.findIn K (.ref LC) (PySem.dunder Operator.BitOr.info.2) = some (some (.ref fmo)) := amo
  have hAnd : PySem.W.findIn K (.ref LC) (PySem.dunder Operator.BitAnd.info.2) = some (some (.ref fmn)) := amn
  have hSub : PySem.W.findIn K (.ref LC) (PySem.dunder Operator.Sub.info.2) = some (some (.ref fmu)) := amu
  have hAdd : PySem.W.findIn K (.ref LC) (PySem.dunder Operator.Add.info.2) = some (some (.ref fmd)) := amd
  have Gwh := ok_whole (P := l.prog) (w := w) (base := base) Fwh TI
  have Gst := ok_state (P := l.prog) (w := w) (base := base) Fst Gwh bwh Fwh.kp gwh
  have Grw := ok_row (P := l.prog) (w := w) (base := base) Frw Gst bst Fst.kp gst TR
  have Grs := ok_rows (P := l.prog) (w := w) (base := base) Frs Grw brw Frw.kp grw TR
  have GacT := ok_ascT (P := l.prog) (w := w) (base := base) Fac TZ
  have Gac := ok_asc (P := l.prog) (w := w) (base := base) Fac TA
  have Gen := ok_ends (P := l.prog) (w := w) (base := base) Fen Gst bst Fst.kp gst GacT bac Fac.kp gac TR
  have Gfl := ok_flags (P := l.prog) (w := w) (mg := mg) (base := base) Ffl
  have Gbh := ok_behind (P := l.prog) (w := w) (mg := mg) (base := base) Fbh
  have Gsr := ok_reach (P := l.prog) (w := w) (base := base) Fsr TM
  have Gsa := ok_started (P := l.prog) (w := w) (base := base) Fsa TM Gsr bsr Fsr.kp gsr Gfl bfl Ffl.kp gfl
  have Gso := ok_src (P := l.prog) (w := w) (base := base) Fso TM
  have Ghi := ok_hits (P := l.prog) (w := w) (K := K) (mg := mg) (base := base) Fhi
  have Gsp := ok_part (P := l.prog) (w := w) (base := base) Fsp TM
  have Gcl := ok_cls (P := l.prog) (w := w) (base := base) Fcl TM Gfl bfl Ffl.kp gfl Gso bso Fso.kp gso Ghi bhi Fhi.kp ghi Gsp bsp Fsp.kp gsp
  have Glm := ok_leastL (P := l.prog) (w := w) (base := base) Flm TM Gfl bfl Ffl.kp gfl Gsa bsa Fsa.kp gsa Gcl bcl Fcl.kp gcl
  have Gsd := ok_side (P := l.prog) (w := w) (base := base) Fsd TO.sd
  have Gle := ok_let (P := l.prog) (w := w) (base := base) Fle Gac bac Fac.kp TA
  have Gtx := ok_text (P := l.prog) (w := w) (base := base) Ftx TA
  have Gki := ok_lmake (P := l.prog) (w := w) (base := base) Fki TLg Gle ble Fle.kp gle Grs brs Frs.kp grs Gen ben Fen.kp gen Glm blm Flm.kp glm
  have Gnl := ok_nl (P := l.prog) (w := w) (base := base) Fnl TNl
  have Glo := ok_lo (P := l.prog) (w := w) (base := base) Flo Gnl bnl Fnl.kp gnl
  have Gms := ok_lstr (P := l.prog) (w := w) (base := base) Fms TLg Glo blo Flo.kp glo
  have Gmc := ok_lin (P := l.prog) (w := w) (base := base) Fmc TLg Gtx btx Ftx.kp gtx Gbh bbh Fbh.kp gbh
  have Gml := ok_llen (P := l.prog) (w := w) (base := base) Fml TLg
  have Gmq := ok_leq (P := l.prog) (w := w) (base := base) Fmq TLq
  have Gmk := ok_chk (P := l.prog) (w := w) (base := base) Fmk TO
  have Gmb := ok_bes (P := l.prog) (w := w) (base := base) Fmb TO Gmk bmk mmk Gsd bsd Fsd.kp gsd Gfl bfl Ffl.kp gfl
  have Gma := ok_ans (P := l.prog) (w := w) (base := base) Fma TO gLC Gmb bmb mmb MLC Gki bki
  have Gme := ok_le (P := l.prog) (w := w) (base := base) Fme TO Gmb bmb mmb
  have Gmo := ok_or (P := l.prog) (w := w) (base := base) Fmo TO Gma bma mma
  have Gmn := ok_and (P := l.prog) (w := w) (base := base) Fmn TO Gma bma mma
  have Gmu := ok_sub (P := l.prog) (w := w) (base := base) Fmu TO Gma bma mma
  have Gmi := ok_inv (P := l.prog) (w := w) (base := base) Fmi TO gLC Gfl bfl Ffl.kp gfl MLC Gki bki
  have Gmd := ok_add (P := l.prog) (w := w) (base := base) Fmd TO Gmk bmk mmk
  have Gmw := ok_wit (P := l.prog) (w := w) (base := base) Fmw TO gLC Gle ble Fle.kp gle MLC Gki bki
  have GW := ok_draw (P := l.prog) (w := w) (base := base) FW TD
  have GS := ok_signs (P := l.prog) (w := w) (base := base) FS GW bW FW.kp TS
  have GM := ok_mach (P := l.prog) (w := w) (base := base) FM GW bW FW.kp TMa
  have GL := ok_led (P := l.prog) (w := w) (mg := mg) (base := base) FL
  have GN := ok_isIn (P := l.prog) (w := w) (base := base) FN GL bL FL.kp gL
  have GV := ok_every (P := l.prog) (w := w) (base := base) FV TW
  have GF := ok_far (P := l.prog) (w := w) (K := K) (base := base) FF TW
  have GWN := ok_win (P := l.prog) (w := w) (base := base) FWN TWn
  have GIL := ok_il (P := l.prog) (w := w) (base := base) FIL TIl MLC Gki bki mml Gml bml
  have GTR := ok_tr (P := l.prog) (w := w) (base := base) (CO := CO) FTR TTr GV bV FV.kp GF bF FF.kp GN bN FN.kp GIL bIL FIL.kp sfL hOr imo Gmo bmo hAnd imn Gmn bmn hSub imu Gmu bmu ami imi Gmi bmi mmc Gmc bmc
  have GRU := ok_ru (P := l.prog) (w := w) (base := base) (CO := CO) FRU sfL hOr imo Gmo bmo hAnd imn Gmn bmn hSub imu Gmu bmu ami imi Gmi bmi ame ime Gme bme mmq Gmq bmq
  have GRF := ok_ref (P := l.prog) (w := w) (base := base) FRF TRf sfL hOr imo Gmo bmo hAnd imn Gmn bmn hSub imu Gmu bmu hAdd imd Gmd bmd ame ime Gme bme
  have GRI := ok_ri (P := l.prog) (w := w) (base := base) (CO := CO) FRI TRi GS bS FS.kp GM bM FM.kp MLC Gki bki mms Gms bms GTR bTR FTR.kp GRU bRU FRU.kp ame ime Gme bme GWN bWN FWN.kp mmw Gmw bmw GRF bRF FRF.kp mmq Gmq bmq
  exact ok_law FX TLw (ok_deck FK TD) bK FK.kp GRI bRI FRI.kp
end
theorem walk {l : PySem.W.OpenLaw} {q : Program} {loose : List Str} {XP : (Str → Option Value) → Heap → Prop} {YP : World → Heap → Prop} {d : DefRec} {K : Params → PySem.W.Frag} (hn : l.most = some 63) (hdf : d.params.defaults = [])
    (hY : ∀ (w : World) (h : Heap), YP w h → (K w.params).In h)
    (F : ∀ (w : World) (mg : Str → Option Value) (fa : Addr) (h : Heap), (K w.params).In h → h.Ns mainGlobals mg → mg d.name = some (.ref fa) →
      ∃ fd : FuncData, (∀ (s : Shared) (u : Value), BindsTo s fd ⟨[u], []⟩ [("_law_script", u)]) ∧ ∀ base : Heap, (K w.params).In base → base.Ns mainGlobals mg → FnG l.prog w (K w.params) mg base 11 fa fd ["_law_script"] (spLaw (K w.params))) :
    PySem.W.WalkO q loose XP YP l.row.toRowW d [] (fun f vs => PySem.call f vs) :=
  walk_ofG (n := 63) (k := 11) (x := "_law_script") (sp := fun w => spLaw (K w.params)) hn (by decide) hdf ⟨rfl, by decide, by decide⟩ hY F (fun _ _ a ns hl _ hS => ⟨a, ns, rfl, hS, hl, fun _ => rfl⟩)
end Vf
open PySem PySem.W PyProof.Rows
set_option maxRecDepth 100000 in
set_option maxHeartbeats 0 in
theorem PySem.Challenge.cw_piecesseen_k06_sets_of_texts_holds : PySem.Challenge.rw_piecesseen_k06_sets_of_texts.Holds := by
  w_on; o_law; k_head; (case hw => w_witness2)
  k_fill
  refine Vf.walk (l := PySem.Challenge.rw_piecesseen_k06_sets_of_texts) rfl rfl (fun w h Y => PySem.W.kIn_of Y) ?F
  case F =>
    intro w mg fa h KX G hmg
    refine' Vf.all_mk KX G hmg ?awh ?lwh ?cwh ?kwh ?aac ?lac ?cac ?kac ?ast ?lst ?cst ?kst ?arw ?lrw ?crw ?krw ?ars ?lrs ?crs ?krs ?aen ?len ?cen ?ken ?afl ?lfl ?cfl ?kfl ?abh ?lbh ?cbh ?kbh ?asr ?lsr ?csr ?ksr ?asa ?lsa ?csa ?ksa ?aso ?lso ?cso ?kso ?ahi ?lhi ?chi ?khi ?asp ?lsp ?csp ?ksp ?acl ?lcl ?ccl ?kcl ?alm ?llm ?clm ?klm ?asd ?lsd ?csd ?ksd ?ale ?lle ?cle ?kle ?atx ?ltx ?ctx ?ktx ?anl ?lnl ?cnl ?knl ?alo ?llo ?clo ?klo ?aK ?lK ?cK ?kK ?aW ?lW ?cW ?kW ?aS ?lS ?cS ?kS ?aM ?lM ?cM ?kM ?aL ?lL ?cL ?kL ?aN ?lN ?cN ?kN ?aV ?lV ?cV ?kV ?aF ?lF ?cF ?kF ?aWN ?lWN ?cWN ?kWN ?aTR ?lTR ?cTR ?kTR ?aIL ?lIL ?cIL ?kIL ?aRU ?lRU ?cRU ?kRU ?aRF ?lRF ?cRF ?kRF ?aRI ?lRI ?cRI ?kRI ?aX ?lX ?cX ?kX ?aLC ?pgLC ?hdLC ?poLC ?saLC ?nLCletters ?nLCrows ?nLCends ?ams ?ims ?lms ?cms ?kms ?amc ?imc ?lmc ?cmc ?kmc ?aml ?iml ?lml ?cml ?kml ?amq ?imq ?lmq ?cmq ?kmq ?amk ?imk ?lmk ?cmk ?kmk ?amb ?imb ?lmb ?cmb ?kmb ?ama ?ima ?lma ?cma ?kma ?ame ?ime ?lme ?cme ?kme ?amo ?imo ?lmo ?cmo ?kmo ?amn ?imn ?lmn ?cmn ?kmn ?amu ?imu ?lmu ?cmu ?kmu ?ami ?imi ?lmi ?cmi ?kmi ?amd ?imd ?lmd ?cmd ?kmd ?amw ?imw ?lmw ?cmw ?kmw ?aki ?iki ?mkLC ?kpLC ?lki ?cki ?kki ?caL ?cnL ?ctL ?cmL ?neL ?aCErr ?aCO ?xCO ?oKCO ?iICO ?kll ?koo ?kop ?sfL ?z_list ?z_int ?z_len ?z_tuple ?z_enumerate ?z_range ?z_isinstance ?z_bool ?z_all ?z_zip ?z_str ?z_sorted ?z_set ?z_repr
    (case awh => k_is)
    (case lwh => k_is)
    (case cwh => k_is)
    (case kwh => k_is)
    (case aac => k_is)
    (case lac => k_is)
    (case cac => k_is)
    (case kac => k_is)
    (case ast => k_is)
    (case lst => k_is)
    (case cst => k_is)
    (case kst => k_is)
    (case arw => k_is)
    (case lrw => k_is)
    (case crw => k_is)
    (case krw => k_is)
    (case ars => k_is)
    (case lrs => k_is)
    (case crs => k_is)
    (case krs => k_is)
    (case aen => k_is)
    (case len => k_is)
    (case cen => k_is)
    (case ken => k_is)
    (case afl => k_is)
    (case lfl => k_is)
    (case cfl => k_is)
    (case kfl => k_is)
    (case abh => k_is)
    (case lbh => k_is)
    (case cbh => k_is)
    (case kbh => k_is)
    (case asr => k_is)
    (case lsr => k_is)
    (case csr => k_is)
    (case ksr => k_is)
    (case asa => k_is)
    (case lsa => k_is)
    (case csa => k_is)
    (case ksa => k_is)
    (case aso => k_is)
    (case lso => k_is)
    (case cso => k_is)
    (case kso => k_is)
    (case ahi => k_is)
    (case lhi => k_is)
    (case chi => k_is)
    (case khi => k_is)
    (case asp => k_is)
    (case lsp => k_is)
    (case csp => k_is)
    (case ksp => k_is)
    (case acl => k_is)
    (case lcl => k_is)
    (case ccl => k_is)
    (case kcl => k_is)
    (case alm => k_is)
    (case llm => k_is)
    (case clm => k_is)
    (case klm => k_is)
    (case asd => k_is)
    (case lsd => k_is)
    (case csd => k_is)
    (case ksd => k_is)
    (case ale => k_is)
    (case lle => k_is)
    (case cle => k_is)
    (case kle => k_is)
    (case atx => k_is)
    (case ltx => k_is)
    (case ctx => k_is)
    (case ktx => k_is)
    (case anl => k_is)
    (case lnl => k_is)
    (case cnl => k_is)
    (case knl => k_is)
    (case alo => k_is)
    (case llo => k_is)
    (case clo => k_is)
    (case klo => k_is)
    (case aK => k_is)
    (case lK => k_is)
    (case cK => k_is)
    (case kK => k_is)
    (case aW => k_is)
    (case lW => k_is)
    (case cW => k_is)
    (case kW => k_is)
    (case aS => k_is)
    (case lS => k_is)
    (case cS => k_is)
    (case kS => k_is)
    (case aM => k_is)
    (case lM => k_is)
    (case cM => k_is)
    (case kM => k_is)
    (case aL => k_is)
    (case lL => k_is)
    (case cL => k_is)
    (case kL => k_is)
    (case aN => k_is)
    (case lN => k_is)
    (case cN => k_is)
    (case kN => k_is)
    (case aV => k_is)
    (case lV => k_is)
    (case cV => k_is)
    (case kV => k_is)
    (case aF => k_is)
    (case lF => k_is)
    (case cF => k_is)
    (case kF => k_is)
    (case aWN => k_is)
    (case lWN => k_is)
    (case cWN => k_is)
    (case kWN => k_is)
    (case aTR => k_is)
    (case lTR => k_is)
    (case cTR => k_is)
    (case kTR => k_is)
    (case aIL => k_is)
    (case lIL => k_is)
    (case cIL => k_is)
    (case kIL => k_is)
    (case aRU => k_is)
    (case lRU => k_is)
    (case cRU => k_is)
    (case kRU => k_is)
    (case aRF => k_is)
    (case lRF => k_is)
    (case cRF => k_is)
    (case kRF => k_is)
    (case aRI => k_is)
    (case lRI => k_is)
    (case cRI => k_is)
    (case kRI => k_is)
    (case aX => k_is)
    (case lX => k_is)
    (case cX => k_is)
    (case kX => k_is)
    (case aLC => k_is)
    (case pgLC => k_is)
    (case hdLC => k_is)
    (case poLC => k_is)
    (case saLC => k_is)
    (case nLCletters => k_is)
    (case nLCrows => k_is)
    (case nLCends => k_is)
    (case ams => k_is)
    (case ims => k_is)
    (case lms => k_is)
    (case cms => k_is)
    (case kms => k_is)
    (case amc => k_is)
    (case imc => k_is)
    (case lmc => k_is)
    (case cmc => k_is)
    (case kmc => k_is)
    (case aml => k_is)
    (case iml => k_is)
    (case lml => k_is)
    (case cml => k_is)
    (case kml => k_is)
    (case amq => k_is)
    (case imq => k_is)
    (case lmq => k_is)
    (case cmq => k_is)
    (case kmq => k_is)
    (case amk => k_is)
    (case imk => k_is)
    (case lmk => k_is)
    (case cmk => k_is)
    (case kmk => k_is)
    (case amb => k_is)
    (case imb => k_is)
    (case lmb => k_is)
    (case cmb => k_is)
    (case kmb => k_is)
    (case ama => k_is)
    (case ima => k_is)
    (case lma => k_is)
    (case cma => k_is)
    (case kma => k_is)
    (case ame => k_is)
    (case ime => k_is)
    (case lme => k_is)
    (case cme => k_is)
    (case kme => k_is)
    (case amo => k_is)
    (case imo => k_is)
    (case lmo => k_is)
    (case cmo => k_is)
    (case kmo => k_is)
    (case amn => k_is)
    (case imn => k_is)
    (case lmn => k_is)
    (case cmn => k_is)
    (case kmn => k_is)
    (case amu => k_is)
    (case imu => k_is)
    (case lmu => k_is)
    (case cmu => k_is)
    (case kmu => k_is)
    (case ami => k_is)
    (case imi => k_is)
    (case lmi => k_is)
    (case cmi => k_is)
    (case kmi => k_is)
    (case amd => k_is)
    (case imd => k_is)
    (case lmd => k_is)
    (case cmd => k_is)
    (case kmd => k_is)
    (case amw => k_is)
    (case imw => k_is)
    (case lmw => k_is)
    (case cmw => k_is)
    (case kmw => k_is)
    (case aki => k_is)
    (case iki => k_is)
    (case mkLC => k_is)
    (case kpLC => k_is)
    (case lki => k_is)
    (case cki => k_is)
    (case kki => k_is)
    (case caL => k_is)
    (case cnL => k_is)
    (case ctL => k_is)
    (case cmL => k_is)
    (case neL => k_is)
    (case aCErr => k_is)
    (case aCO => k_is)
    (case xCO => k_is)
    (case oKCO => kernel_rfl)
    (case iICO => k_is)
    (case kll => kernel_rfl)
    (case koo => kernel_rfl)
    (case kop => kernel_rfl)
    (case sfL => kernel_rfl)
    (case z_list => k_is)
    (case z_int => k_is)
    (case z_len => k_is)
    (case z_tuple => k_is)
    (case z_enumerate => k_is)
    (case z_range => k_is)
    (case z_isinstance => k_is)
    (case z_bool => k_is)
    (case z_all => k_is)
    (case z_zip => k_is)
    (case z_str => k_is)
    (case z_sorted => k_is)
    (case z_set => k_is)
    (case z_repr => k_is)
