import PyProof.Rows.All
import Wide.All
import OpenK.AllK
import Wide.FinOn
import HandS.ForMost
import HandS.Strs
import HandS.SetFor
import HandS.SetTxt0
import HandS.Walk
import HandS.Style
import HandS.IsInst
import HandS.More
import HandS.ExcInit
import HandS.HotCalls
import HandS.WordsExc
import HandS.SortInts
import HandS.TupSets
import PyProof.SeqIndex
import HandS.Dict
import HandS.Text
import HandS.StrMore
import PyProof.StrLawsFrom
import PyProof.Rows.StrBetween
import PyProof.FitsInt
import PyProof.Rows.StrJoinMade
import HandS.Codes
import HandS.ForDict
import PySem.Challenge.RW_piecesseen_k21_texts_that_judges_accept
import HandS.DictComp
set_option linter.all false
namespace Vm
/-! ### words as lists of codes; the pieces of a word -/
abbrev Wd := List Nat
theorem lt_irr (x : Wd) : ¬ x < x := List.lt_irrefl x
theorem lt_tr {x y z : Wd} (a : x < y) (b : y < z) : x < z := List.lt_trans a b
theorem lt_as {x y : Wd} (a : x < y) : ¬ y < x := fun b => lt_irr x (lt_tr a b)
theorem lt_tri {x y : Wd} (a : ¬ x < y) (b : ¬ y < x) : x = y := List.le_antisymm (List.not_lt.mp b) (List.not_lt.mp a)
theorem le_tr {x y z : Wd} (a : ¬ y < x) (b : ¬ z < y) : ¬ z < x := List.not_lt.mpr (List.le_trans (List.not_lt.mp a) (List.not_lt.mp b))
/-- p into an ascending list -/
def ins (p : Wd) : List Wd → List Wd
  | [] => [p]
  | q :: r => if p < q then p :: q :: r else if q < p then q :: ins p r else q :: r
def asc : List Wd → List Wd
  | [] => []
  | p :: r => ins p (asc r)
abbrev Up (l : List Wd) : Prop := l.Pairwise (· < ·)
theorem mem_ins {p x : Wd} : ∀ {l : List Wd}, x ∈ ins p l ↔ x = p ∨ x ∈ l
  | [] => by simp [ins]
  | q :: r => by
    unfold ins
    by_cases h1 : p < q
    · simp [h1]
    · by_cases h2 : q < p
      · simp only [h1, h2, if_false, if_true, List.mem_cons, mem_ins (l := r)]
        constructor
        · rintro (a | a | a) <;> simp [a]
        · rintro (a | a | a) <;> simp [a]
      · have e := lt_tri h1 h2
        subst e
        simp [h1]
theorem up_ins {p : Wd} : ∀ {l : List Wd}, Up l → Up (ins p l)
  | [], _ => List.pairwise_singleton _ _
  | q :: r, h => by
    obtain ⟨a, b⟩ := List.pairwise_cons.mp h
    unfold ins
    by_cases h1 : p < q
    · rw [if_pos h1]
      exact List.pairwise_cons.mpr ⟨fun y hy => (List.mem_cons.mp hy).elim (fun e => e ▸ h1) fun hy => lt_tr h1 (a y hy), h⟩
    · rw [if_neg h1]
      by_cases h2 : q < p
      · rw [if_pos h2]
        exact List.pairwise_cons.mpr ⟨fun y hy => (mem_ins.mp hy).elim (fun e => e ▸ h2) fun hy => a y hy, up_ins b⟩
      · rw [if_neg h2]; exact h
theorem mem_asc {x : Wd} : ∀ {l : List Wd}, x ∈ asc l ↔ x ∈ l
  | [] => Iff.rfl
  | p :: r => by unfold asc; rw [mem_ins, mem_asc (l := r), List.mem_cons]
theorem up_asc : ∀ l : List Wd, Up (asc l)
  | [] => List.Pairwise.nil
  | p :: r => up_ins (up_asc r)
theorem up_uniq : ∀ {l m : List Wd}, Up l → Up m → (∀ x, x ∈ l ↔ x ∈ m) → l = m
  | [], [], _, _, _ => rfl
  | [], y :: m, _, _, h => absurd ((h y).mpr (List.mem_cons_self ..)) (by simp)
  | x :: l, [], _, _, h => absurd ((h x).mp (List.mem_cons_self ..)) (by simp)
  | x :: l, y :: m, hl, hm, h => by
    obtain ⟨a1, a2⟩ := List.pairwise_cons.mp hl
    obtain ⟨b1, b2⟩ := List.pairwise_cons.mp hm
    have e : x = y := by
      rcases List.mem_cons.mp ((h x).mp (List.mem_cons_self ..)) with e | hx
      · exact e
      · rcases List.mem_cons.mp ((h y).mpr (List.mem_cons_self ..)) with e | hy
        · exact e.symm
        · exact absurd (a1 y hy) (lt_as (b1 x hx))
    subst e
    refine congrArg (x :: ·) (up_uniq a2 b2 fun z => ?_)
    have hz := h z
    simp only [List.mem_cons] at hz
    constructor
    · intro q
      rcases hz.mp (.inr q) with e | w
      · exact absurd (a1 z q) (e ▸ lt_irr _)
      · exact w
    · intro q
      rcases hz.mpr (.inr q) with e | w
      · exact absurd (b1 z q) (e ▸ lt_irr _)
      · exact w
theorem up_nodup {l : List Wd} (h : Up l) : l.Nodup := List.Pairwise.imp (fun {a b} (q : a < b) (e : a = b) => lt_irr b (by rw [e] at q; exact q)) h
/-- a sorted list without doubles ascends -/
theorem up_of_le : ∀ {l : List Wd}, l.Pairwise (fun x y => ¬ y < x) → l.Nodup → Up l
  | [], _, _ => List.Pairwise.nil
  | x :: l, h, d => by
    obtain ⟨a1, a2⟩ := List.pairwise_cons.mp h
    obtain ⟨b1, b2⟩ := List.nodup_cons.mp d
    refine List.pairwise_cons.mpr ⟨fun y hy => ?_, up_of_le a2 b2⟩
    by_cases c : x < y
    · exact c
    · exact absurd (lt_tri c (a1 y hy) ▸ hy) b1
theorem asc_length_le : ∀ l : List Wd, (asc l).length ≤ l.length
  | [] => Nat.le_refl _
  | p :: r => by
    have h : ∀ m : List Wd, (ins p m).length ≤ m.length + 1 := by
      intro m
      induction m with
      | nil => exact Nat.le_refl _
      | cons q m ih =>
        unfold ins
        by_cases h1 : p < q
        · simp [h1]
        · by_cases h2 : q < p
          · simp [h1, h2]; exact ih
          · simp [h1, h2]
    exact Nat.le_trans (h _) (Nat.succ_le_succ (asc_length_le r))
theorem asc_congr {l m : List Wd} (h : ∀ x, x ∈ l ↔ x ∈ m) : asc l = asc m := up_uniq (up_asc _) (up_asc _) fun x => by rw [mem_asc, mem_asc, h x]
/-- the pieces of k signs, from the left -/
def win (k : Nat) (z : Wd) (i : Nat) : Wd := (z.drop i).take k
def wins (k : Nat) (z : Wd) : List Wd := (List.range (z.length + 1 - k)).map (win k z)
theorem wins_length (k : Nat) (z : Wd) : (wins k z).length = z.length + 1 - k := by simp [wins]
theorem wins_get {k : Nat} {z : Wd} {i : Nat} (h : i < z.length + 1 - k) : (wins k z)[i]? = some (win k z i) := by simp [wins, h]
theorem win_length {k : Nat} {z : Wd} {i : Nat} (h : i < z.length + 1 - k) : (win k z i).length = k := by
  simp [win]; omega
theorem wins_len {k : Nat} {z p : Wd} (h : p ∈ wins k z) : p.length = k := by
  obtain ⟨i, hi, rfl⟩ := List.mem_map.mp h
  exact win_length (List.mem_range.mp hi)
theorem wins_mem {k : Nat} {z p : Wd} (h : p ∈ wins k z) : ∀ c ∈ p, c ∈ z := by
  obtain ⟨i, hi, rfl⟩ := List.mem_map.mp h
  intro c hc
  exact List.mem_of_mem_drop (List.mem_of_mem_take hc)
/-- how often a piece stands in a word -/
def often (k : Nat) (z p : Wd) : Nat := (wins k z).count p
theorem often_pos {k : Nat} {z p : Wd} : 0 < often k z p ↔ p ∈ wins k z := List.count_pos_iff
theorem often_le (k : Nat) (z p : Wd) : often k z p ≤ z.length + 1 - k := by
  rw [← wins_length]; exact List.count_le_length
/-- the wins so far -/
theorem take_succ_wins {k : Nat} {z : Wd} {i : Nat} (h : i < z.length + 1 - k) : (wins k z).take (i + 1) = (wins k z).take i ++ [win k z i] := by
  rw [List.take_add_one, wins_get h]; rfl
/-! ### counting from place to place -/
def upto (k : Nat) (z p : Wd) (j : Nat) : Nat := ((wins k z).take j).count p
theorem upto_all {k : Nat} {z p : Wd} {j : Nat} (h : z.length + 1 - k ≤ j) : upto k z p j = often k z p := by
  unfold upto often
  rw [List.take_of_length_le (by rw [wins_length]; exact h)]
theorem upto_none {k : Nat} {z p : Wd} {a b : Nat} (h : a ≤ b) (hn : ∀ i, a ≤ i → i < b → i < z.length + 1 - k → win k z i ≠ p) : upto k z p b = upto k z p a := by
  induction b with
  | zero => cases Nat.le_zero.mp h; rfl
  | succ b ih =>
    by_cases e : a = b + 1
    · rw [e]
    · have r := ih (by omega) fun i h1 h2 h3 => hn i h1 (by omega) h3
      rw [← r]
      unfold upto
      by_cases hb : b < z.length + 1 - k
      · rw [take_succ_wins hb, List.count_append, List.count_singleton, if_neg]
        · rfl
        · simpa using hn b (by omega) (by omega) hb
      · rw [List.take_of_length_le (by rw [wins_length]; omega), List.take_of_length_le (by rw [wins_length]; omega)]
theorem upto_hit {k : Nat} {z p : Wd} {b : Nat} (hb : b < z.length + 1 - k) (h : win k z b = p) : upto k z p (b + 1) = upto k z p b + 1 := by
  unfold upto
  rw [take_succ_wins hb, List.count_append, List.count_singleton, if_pos (by simpa using h)]
theorem upto_zero {k : Nat} {z p : Wd} {i : Nat} (h : p ∉ (wins k z).take i) : upto k z p i = 0 := List.count_eq_zero.mpr h
theorem upto_miss {k : Nat} {z p : Wd} {b : Nat} (hb : b < z.length + 1 - k) (h : p ≠ win k z b) : upto k z p (b + 1) = upto k z p b := by
  unfold upto
  rw [take_succ_wins hb, List.count_append, List.count_singleton, if_neg (by simpa using fun e => h e.symm)]
  rfl
theorem mem_take_succ {k : Nat} {z p : Wd} {i : Nat} (hi : i < z.length + 1 - k) : p ∈ (wins k z).take (i + 1) ↔ p ∈ (wins k z).take i ∨ p = win k z i := by
  rw [take_succ_wins hi, List.mem_append, List.mem_singleton]
end Vm

set_option linter.all false
namespace Vm
/-! ### tables of words and numbers -/
def tally (p : Wd) : List (Wd × Nat) → Nat
  | [] => 0
  | q :: r => (if q.1 = p then q.2 else 0) + tally p r
theorem tally_app (p : Wd) : ∀ (l m : List (Wd × Nat)), tally p (l ++ m) = tally p l + tally p m
  | [], m => by simp [tally]
  | q :: r, m => by
    show (if q.1 = p then q.2 else 0) + tally p (r ++ m) = _ + tally p r + tally p m
    rw [tally_app p r m]
    omega
theorem tally_zero {p : Wd} : ∀ {l : List (Wd × Nat)}, p ∉ l.map (·.1) → tally p l = 0
  | [], _ => rfl
  | q :: r, h => by
    rw [List.map_cons, List.mem_cons, not_or] at h
    show (if q.1 = p then q.2 else 0) + tally p r = 0
    rw [if_neg (fun e => h.1 e.symm), tally_zero h.2]
theorem tally_map {p : Wd} {f : Wd → Nat} : ∀ {l : List Wd}, l.Nodup → tally p (l.map fun q => (q, f q)) = if p ∈ l then f p else 0
  | [], _ => by simp [tally]
  | q :: r, h => by
    obtain ⟨h1, h2⟩ := List.nodup_cons.mp h
    show (if q = p then f q else 0) + tally p (r.map fun q => (q, f q)) = _
    rw [tally_map h2]
    by_cases e : q = p
    · subst e
      rw [if_pos rfl, if_neg h1, if_pos (List.mem_cons_self ..)]
      rfl
    · rw [if_neg e]
      have e' : ¬ p = q := fun z => e z.symm
      simp only [List.mem_cons, e', false_or, Nat.zero_add]
theorem asc_asc (l : List Wd) : asc (asc l) = asc l := asc_congr fun x => mem_asc
/-- the pieces with their numbers, as a table -/
def tab (k : Nat) (z : Wd) : List (Wd × Nat) := (asc (wins k z)).map fun p => (p, often k z p)
theorem tab_keys (k : Nat) (z : Wd) : (tab k z).map (·.1) = asc (wins k z) := by
  unfold tab
  rw [List.map_map]
  exact List.map_id _
theorem tally_tab (k : Nat) (z p : Wd) : tally p (tab k z) = often k z p := by
  unfold tab
  rw [tally_map (up_nodup (up_asc _))]
  split
  · rfl
  · rename_i h
    exact (List.count_eq_zero.mpr fun x => h (mem_asc.mpr x)).symm
theorem tab_length (k : Nat) (z : Wd) : (tab k z).length ≤ z.length + 1 - k := by
  unfold tab
  rw [List.length_map]
  exact Nat.le_trans (asc_length_le _) (Nat.le_of_eq (wins_length k z))
end Vm

set_option linter.all false
namespace Vm
/-! ### the pieces of a word with one sign more, and of two words -/
theorem win_app {k i : Nat} {x y : Wd} (h : i + k ≤ x.length) : win k (x ++ y) i = win k x i := by
  unfold win
  rw [List.drop_append_of_le_length (by omega), List.take_append_of_le_length (by rw [List.length_drop]; omega)]
theorem wins_snoc {k : Nat} {z : Wd} {c : Nat} (hk : 1 ≤ k) (h : k ≤ z.length + 1) : wins k (z ++ [c]) = wins k z ++ [z.drop (z.length + 1 - k) ++ [c]] := by
  unfold wins
  rw [List.length_append, List.length_singleton, show z.length + 1 + 1 - k = (z.length + 1 - k) + 1 by omega, List.range_succ, List.map_append]
  congr 1
  · refine List.map_congr_left fun i hi => ?_
    have hi := List.mem_range.mp hi
    exact win_app (by omega)
  · show [win k (z ++ [c]) (z.length + 1 - k)] = _
    unfold win
    rw [List.drop_append_of_le_length (by omega)]
    congr 1
    exact List.take_of_length_le (by rw [List.length_append, List.length_drop, List.length_singleton]; omega)
theorem often_snoc {k : Nat} {z p : Wd} {c : Nat} (hk : 1 ≤ k) (h : k ≤ z.length + 1) : often k (z ++ [c]) p = often k z p + (if z.drop (z.length + 1 - k) ++ [c] = p then 1 else 0) := by
  unfold often
  rw [wins_snoc hk h, List.count_append, List.count_singleton]
  congr 1
  simp [beq_iff_eq]
end Vm

set_option Elab.async false
set_option linter.all false
set_option maxRecDepth 100000
set_option maxHeartbeats 4000000
namespace Vs
open PySem PySem.Spec PyProof.Rows L2
open PySem.Froz (SD sObj addTx tailTx sing TxOk)
/-! ### a set of texts, as it grows out of a text's signs -/
theorem tail_ris {ep : Nat} {es : Array (Int × Value)} {t : SetTable} {b : Bool} (r : Ris t.place.toList) : Ris (tailTx ep es t b).2.2.place.toList := by
  unfold tailTx
  split
  · exact relayAll_ris t es _
  · exact r
theorem tail_led {ep : Nat} {es : Array (Int × Value)} {t : SetTable} {b : Bool} : (tailTx ep es t b).2.2.led = t.led := by
  unfold tailTx
  split
  · exact relayAll_led t es _
  · rfl
theorem add_ris {h : Int} {v : Value} {D : SD} (r : Ris D.2.2.place.toList) : Ris (addTx h v D).2.2.place.toList := by
  unfold addTx
  refine tail_ris ?_
  have q := layNew_ris D.2.2 D.1 h v r
  split <;> exact q
theorem add_led {h : Int} {v : Value} {D : SD} : (addTx h v D).2.2.led = D.2.2.led := by
  unfold addTx
  refine tail_led.trans ?_
  have q := layNew_led D.2.2 D.1 h v
  split <;> exact q
/-- the payload D holds just the texts l, each once, and can be walked -/
structure Tx (P : Program) (w : World) (D : SD) (l : List Str) : Prop where
  ok : TxOk P w D l
  ris : Ris D.2.2.place.toList
  led : w.params.followText "set-order" = true ∨ D.2.2.led = true
  nd : l.Nodup
section
variable {P : Program} {w : World} {A : Around} {E : Value → Shared → Prop} {s : Shared}
theorem Tx.add {D : SD} {l : List Str} {k : Str} (u : Tok) (F : Tx P w D l) (hk : k ∉ l) : Tx P w (addTx (hashStr w k) (.str k u) D) (k :: l) :=
  ⟨Froz.add_ok u F.ok, add_ris F.ris, F.led.imp id fun z => add_led.trans z, List.nodup_cons.mpr ⟨hk, F.nd⟩⟩
/-- a text that is there already -/
theorem add_old {a : Addr} {T : String} {D : SD} {l : List Str} {k : Str} {u : Tok} {Q : Bool → Shared → Prop} (ho : s.heap.get? a = some (sObj T D)) (F : TxOk P w D l) (hk : k ∈ l) (hb : l.length < scanBound)
    (h : Q false s) : wpAny (model P w) A (setAddHashed a (.str k u) (hashStr w k)) Q E s := by
  obtain ⟨es, ep, t⟩ := D
  have hd : (sObj T (es, ep, t)).data = .set es ep t := rfl
  have hf : t.fits es.size = true := F.fit
  have hel : ElemsOf (strKind P w) es.toList := F.el
  have hb0 : es.size < scanBound := by
    have z : es.size = l.length := F.sz
    omega
  obtain ⟨e, he, hi⟩ := (F.mem k).mp hk
  unfold setAddHashed setAddHashedIn
  refine wpAny_holding (wpAny_bind (wpAny_setState_of ho hd hf ?_))
  dsimp only
  rw [byScan_of rfl hb0 hel]
  simp only [↓reduceIte]
  unfold setAddByScan
  refine wpAny_bind (wpAny_bind (wpAny_rule (wpAny_bind (wpAny_setScan_of (knd := strKind P w) (k := k) (Froz.is_str k u) ho hd hf hel ?_))))
  cases hr : List.findIdx? (fun e => (strKind P w).is k e.2) es.toList with
  | none =>
    have c := List.findIdx?_eq_none_iff.mp hr e he
    rw [hi] at c
    cases c
  | some j => exact wpAny_pure (wpAny_pure h)
/-- the texts of one sign each -/
abbrev parts (x : Str) : List Str := x.cps.toList.map sing
/-- the loop that puts them in -/
theorem loop_tx {I : Addr} {fp wr : List Addr} {G : Array GenState → Array GenState → Prop} {n : Nat} {x : Str} {St : Nat → Shared → Prop} {R : Result → Shared → Prop}
    (W : WalksS P w A.in1 I fp wr G n (SignAt x) St) (S : Addr) (hSf : S ∉ fp) (hn : n = x.cps.size) (hb : n + 1 < scanBound) :
    ∀ (m i : Nat) (s : Shared), n - i = m → i ≤ n → St i s → (∃ D l, s.heap.get? S = some (sObj "set" D) ∧ Tx P w D l ∧ l.length ≤ i ∧ ∀ k, k ∈ l ↔ k ∈ (parts x).take i) →
      (∀ s' D l, Moved (S :: wr) G s s' → s'.heap.get? S = some (sObj "set" D) → Tx P w D l → (∀ k, k ∈ l ↔ k ∈ parts x) → R (.ok (.ret .none)) s') →
      codeAny (model P w) A (.builtin "set.update.loop" ⟨[.ref S, .ref I], []⟩) R s := by
  have hSw : S ∉ wr := fun h => hSf (W.sub _ h)
  have more : ∀ b ∈ wr, b ∈ S :: wr := fun b => List.mem_cons_of_mem _
  have hpl : (parts x).length = n := by rw [List.length_map, Array.length_toList, hn]
  intro m
  induction m with
  | zero =>
    intro i s hm hi hst ⟨D, l, hS, F, hl, hmem⟩ hR
    obtain rfl : i = n := by omega
    refine codeAny_builtin PyProof.Rows.F.entry_set_update_loop ?_
    rw [Around.under_plainId PyProof.Rows.F.plain_set_update_loop _]
    refine wpAny_bind (W.done s _ _ hst fun s' mv => wpAny_pure (hR s' D l (mv.mono more) (mv.heap S _ hSw hS) F fun k => ?_))
    rw [hmem k, List.take_of_length_le (Nat.le_of_eq hpl)]
  | succ m ih =>
    intro i s hm hi hst ⟨D, l, hS, F, hl, hmem⟩ hR
    refine codeAny_builtin PyProof.Rows.F.entry_set_update_loop ?_
    rw [Around.under_plainId PyProof.Rows.F.plain_set_update_loop _]
    refine wpAny_bind (W.item i s _ _ (by omega) hst fun v s1 hP hst1 mv => ?_)
    obtain ⟨c, u, hc, rfl⟩ := hP
    have hS1 := mv.heap S _ hSw hS
    have hp : (parts x)[i]? = some (sing c) := by rw [List.getElem?_map, Array.getElem?_toList, hc]; rfl
    have hnx : ∀ k, k ∈ (parts x).take (i + 1) ↔ k ∈ l ∨ k = sing c := fun k => by
      rw [List.take_add_one, hp, List.mem_append, ← hmem k]
      simp
    refine wpAny_bind (wpAny_holding ?_)
    unfold setAdd
    refine wpAny_holding (wpAny_bind ((strKind P w).pyHash (k := sing c) (Froz.is_str _ _) ?_))
    by_cases hk : sing c ∈ l
    · refine add_old (s := { s1 with toks := s1.toks + 1 }) hS1 F.ok hk (by omega) ?_
      refine wpAny_pure ⟨plainId_quiet PyProof.Rows.F.plain_set_update_loop _, ih (i + 1) _ (by omega) (by omega) (W.frame _ s1 _ _ hst1 (Nat.le_succ _) fun b _ o e => e) ⟨D, l, hS1, F, by omega, fun k => ?_⟩ fun s2 D2 l2 mv2 hS2 F2 h2 => ?_⟩
      · rw [hnx k]
        exact ⟨.inl, fun z => z.elim id fun z => z ▸ hk⟩
      · exact hR s2 D2 l2 (Moved.trans W.gtrans ((mv.mono more).then_heap (Nat.le_succ _) fun b o _ e => e) mv2) hS2 F2 h2
    · refine Froz.add_x (s := { s1 with toks := s1.toks + 1 }) hS1 F.ok hk (by omega) ?_
      have hS2 : (s1.heap.update S (fun _ => sObj "set" (addTx (hashStr w (sing c)) (.str (sing c) u) D))).get? S = some (sObj "set" (addTx (hashStr w (sing c)) (.str (sing c) u) D)) := Froz.get_upd _ hS1 rfl
      have other : ∀ b o, b ≠ S → s1.heap.get? b = some o → (s1.heap.update S (fun _ => sObj "set" (addTx (hashStr w (sing c)) (.str (sing c) u) D))).get? b = some o := fun b o n e => (Heap.get?_update_other _ _ (Ne.symm n)).trans e
      refine wpAny_pure ⟨plainId_quiet PyProof.Rows.F.plain_set_update_loop _, ih (i + 1) _ (by omega) (by omega) (W.frame _ s1 _ _ hst1 (Nat.le_succ _) fun b hb' o e => other b o (fun z => hSf (z ▸ hb')) e) ⟨_, sing c :: l, hS2, F.add u hk, (by simp only [List.length_cons]; omega), fun k => ?_⟩ fun s2 D2 l2 mv2 hS3 F2 h2 => ?_⟩
      · rw [hnx k, List.mem_cons]
        exact Or.comm
      · exact hR s2 D2 l2 (Moved.trans W.gtrans ((mv.mono more).then_heap (Nat.le_succ _) fun b o nb e => other b o (fun z => nb (z ▸ List.mem_cons_self ..)) e) mv2) hS3 F2 h2
end
end Vs

set_option Elab.async false
set_option linter.all false
set_option maxRecDepth 100000
set_option maxHeartbeats 4000000
namespace Vs
open PySem PySem.Spec PyProof.Rows L2
open PySem.Froz (SD sObj addTx tailTx sing TxOk)
section
variable {P : Program} {w : World} {A : Around} {E : Value → Shared → Prop} {s : Shared}
/-- the empty payload of a new set -/
abbrev emptyD (w : World) : SD := (#[], 0, .fresh 0 0 (!w.params.followText "set-order"))
theorem tx_empty : Tx P w (emptyD w) [] := by
  refine ⟨TxOk.nil (by rfl), List.Pairwise.nil, ?_, List.nodup_nil⟩
  show _ ∨ (!w.params.followText "set-order") = true
  cases w.params.followText "set-order" <;> simp
/-- where set(v) goes once the new set stands: its __init__ -/
theorem set_by_init {v : Value} {Q : Value → Shared → Prop}
    (h : ∀ R : Result → Shared → Prop, (∀ s₂, Q (.ref s.heap.objs.size) s₂ → R (.ok (.ret .none)) s₂) → wpAny (model P w) A.in1.in1 (Builtin.«set.__init__» ⟨[.ref s.heap.objs.size, v], []⟩)
      (fun fin s' => match fin with | .done f => R (.ok f) s' | .again c' => c'.quiet = true ∧ codeAny (model P w) A.in1 c' R s') (fun e s' => R (.error e) s') { s with heap := s.heap.push (sObj "set" (emptyD w)) }) :
    wpAny (model P w) A (call (.type "set") [v]) Q E s := by
  obtain ⟨c, tl, hmro⟩ := F.called_set.mro
  have g1 := F.called_set.made
  have g2 := F.called_set.sub
  have g3 := F.called_set.notType
  have g4 := F.called_set.canCreate
  have g5 := F.typeCall_set_1 v
  refine wpAny_call (codeAny_of_tree ?_)
  refine wpAny_pure ⟨Code.quiet_builtin _ (by decide +kernel), codeAny_builtin F.entry_type_call ?_⟩
  rw [Around.under_plain (weight_type_call_type "set" [v] []) rfl]
  repeat (any_goals (first | assumption | wp_step))
  refine codeAny_mono (code_set_led1 v (E := E) (Q₁ := fun obj s₁ => obj = .ref s.heap.objs.size ∧ s₁ = { s with heap := s.heap.push (sObj "set" (emptyD w)) }) ⟨rfl, rfl⟩) fun r s₁ hr => ?_
  match r, hr with
  | .ok (.ret obj), hr =>
    obtain ⟨rfl, rfl⟩ := hr
    have hS : (s.heap.push (sObj "set" (emptyD w))).get? s.heap.objs.size = some (sObj "set" (emptyD w)) := Heap.get?_push_size _ rfl
    have hT : Shared.TypeIs { s with heap := s.heap.push (sObj "set" (emptyD w)) } (.ref s.heap.objs.size) "set" := ⟨_, hS, rfl⟩
    have g6 := F.called_set.init.lookup
    have g7 := F.called_set.init.bind (.ref s.heap.objs.size)
    repeat (any_goals (first | assumption | wp_step))
    refine codeAny_mono (codeAny_call_builtin (R := wants (fun r s₂ => r = .none ∧ Q (.ref s.heap.objs.size) s₂) E) F.called_set.init.plain F.entry_set_init (check_set_init_1 hT (h _ fun s₂ q => ⟨rfl, q⟩))) fun r₂ s₂ hr₂ => ?_
    match r₂, hr₂ with
    | .ok (.ret _), hr₂ =>
      obtain ⟨rfl, q⟩ := hr₂
      repeat (any_goals (first | assumption | wp_step))
    | .error e, hr₂ => exact hr₂
    | .ok .next, hr₂ => exact hr₂.elim
    | .ok .brk, hr₂ => exact hr₂.elim
    | .ok .cont, hr₂ => exact hr₂.elim
  | .error e, hr => exact hr
  | .ok .next, hr => exact hr.elim
  | .ok .brk, hr => exact hr.elim
  | .ok .cont, hr => exact hr.elim
end
end Vs

set_option Elab.async false
set_option linter.all false
set_option maxRecDepth 100000
set_option maxHeartbeats 4000000
namespace Vs
open PySem PySem.Spec PyProof.Rows L2
open PySem.Froz (SD sObj addTx tailTx sing TxOk)
section
variable {P : Program} {w : World} {A : Around} {E : Value → Shared → Prop} {s : Shared}
theorem sub_str_set : isSubtype (.type "str") (.type "set") = pure false := by rw [isSubtype_type]; kernel_rfl
theorem sub_str_frozenset : isSubtype (.type "str") (.type "frozenset") = pure false := by rw [isSubtype_type]; kernel_rfl
/-- set(text) -/
theorem call_set_text {x : Str} {u : Tok} {Q : Value → Shared → Prop} (hh : A.handled = none) (hb : x.cps.size + 1 < scanBound)
    (h : ∀ (s' : Shared) D l, (∀ b o, s.heap.get? b = some o → s'.heap.get? b = some o) → s'.gens = s.gens → s'.os = s.os → s'.heap.get? s.heap.objs.size = some (sObj "set" D) → Tx P w D l → (∀ k, k ∈ l ↔ k ∈ parts x) → Q (.ref s.heap.objs.size) s') :
    wpAny (model P w) A (call (.type "set") [.str x u]) Q E s := by
  refine set_by_init fun R hR => ?_
  have hS : (s.heap.push (sObj "set" (emptyD w))).get? s.heap.objs.size = some (sObj "set" (emptyD w)) := Heap.get?_push_size _ rfl
  have hz : (s.heap.push (sObj "set" (emptyD w))).objs.size = s.heap.objs.size + 1 := Heap.size_push ..
  have hold : ∀ b o, s.heap.get? b = some o → (s.heap.push (sObj "set" (emptyD w))).get? b = some o := fun b o e => Heap.get?_push_of_some _ e
  have t1 := sub_str_set
  have t2 := sub_str_frozenset
  have t3 : (Value.type "str" == Value.type "dict") = false := by decide
  generalize s.heap.push (sObj "set" (emptyD w)) = h1 at hS hz hold ⊢
  unfold Builtin.«set.__init__» noKeywords Builtin.Frozenset.updateFrom
  generalize hPI : pyIter = PI
  wp_walk
  subst hPI
  refine wpAny_pyIter_str fun o St W hst => wpAny_bind (wpAny_runValue ?_)
  have hx : ∀ b u', h1.get? b = some u' → b ≠ h1.objs.size := fun b u' e => Nat.ne_of_lt (Heap.lt_size e)
  have hSf : s.heap.objs.size ∉ [h1.objs.size] := fun z => hx _ _ hS (List.mem_singleton.mp z)
  refine loop_tx (W _ (by simp [hh])).toS s.heap.objs.size hSf rfl hb _ 0 _ rfl (Nat.zero_le _) hst ⟨_, [], Heap.get?_push_of_some _ hS, tx_empty, Nat.le_refl _, fun k => by simp⟩ fun s2 D l mv hS2 F hm => ?_
  refine wpAny_pure (wpAny_pure (hR _ (h s2 D l (fun b o' e => ?_) mv.gens mv.os hS2 F hm)))
  refine mv.heap b o' (fun z => ?_) (Heap.get?_push_of_some _ (hold b o' e))
  rcases List.mem_cons.mp z with z | z
  · rw [z] at e
    exact Nat.lt_irrefl _ (Heap.lt_size e)
  · exact hx _ _ (hold b o' e) (List.mem_singleton.mp z)
/-! ### sorted(set of texts) -/
theorem strs_of : ∀ (l : List Value), (∀ v ∈ l, ∃ k tk, v = Value.str k tk) → StrsAre l (l.map strOf)
  | [], _ => .nil
  | v :: l, h => by
    obtain ⟨k, tk, rfl⟩ := h v (List.mem_cons_self ..)
    exact .cons k tk (strs_of l fun u hu => h u (List.mem_cons_of_mem _ hu))
theorem perm_same {α : Type} [DecidableEq α] : ∀ (l m : List α), l.Nodup → (∀ k ∈ l, k ∈ m) → m.length ≤ l.length → m.Perm l
  | [], m, _, _, h => by rw [List.length_eq_zero_iff.mp (Nat.le_zero.mp h)]
  | x :: l, m, d, s, h => by
    obtain ⟨d1, d2⟩ := List.nodup_cons.mp d
    have hx := s x (List.mem_cons_self ..)
    have p := List.perm_cons_erase hx
    have hl := p.length_eq
    simp only [List.length_cons] at hl h
    exact p.trans ((perm_same l (m.erase x) d2 (fun k hk => (List.mem_erase_of_ne fun z : k = x => d1 (by rw [← z]; exact hk)).mpr (s k (List.mem_cons_of_mem _ hk))) (by omega)).cons x)
theorem Tx.vals {D : SD} {l : List Str} (F : Tx P w D l) : (∀ e ∈ D.1.toList, ∃ k tk, e.2 = Value.str k tk ∧ k ∈ l) ∧ (D.1.toList.map fun e => strOf e.2).Perm l := by
  have h1 : ∀ e ∈ D.1.toList, ∃ k tk, e.2 = Value.str k tk ∧ k ∈ l := fun e he => by
    obtain ⟨⟨k, hk, _⟩, _⟩ := F.ok.el e he
    have hi : Value.isStrOf k e.2 = true := hk
    obtain ⟨hv, v⟩ := e
    cases v <;> simp [Value.isStrOf] at hi
    exact ⟨_, _, rfl, (F.ok.mem _).2 ⟨_, he, by subst hi; exact Froz.is_str _ _⟩⟩
  refine ⟨h1, ?_⟩
  have sub : ∀ k ∈ l, k ∈ D.1.toList.map fun e => strOf e.2 := fun k hk => by
    obtain ⟨e, he, hi⟩ := (F.ok.mem k).1 hk
    refine List.mem_map.mpr ⟨e, he, ?_⟩
    have hi : Value.isStrOf k e.2 = true := hi
    obtain ⟨hv, v⟩ := e
    cases v <;> simp [Value.isStrOf] at hi
    exact hi
  have len : (D.1.toList.map fun e => strOf e.2).length = l.length := by
    rw [List.length_map, Array.length_toList]
    exact F.ok.sz
  exact perm_same _ _ F.nd sub (Nat.le_of_eq len)
theorem sorted_set_text {a : Addr} {D : SD} {l : List Str} {Q : Value → Shared → Prop} (ho : s.heap.get? a = some (sObj "set" D)) (F : Tx P w D l) (hh : A.handled = none) (h64 : l.length < 64)
    (h : ∀ (s' : Shared) p (out : List Value) (c : Nat) (ys : List Str), (∀ b o, s.heap.get? b = some o → s'.heap.get? b = some o) → s'.gens = s.gens → s'.os = s.os → s.heap.objs.size ≤ p →
      s'.heap.get? p = some (seqObj "list" out.toArray c) → StrsAre out ys → ys.Perm l → sortedS ys = true → Q (.ref p) s') :
    wpAny (model P w) A (call (.builtin "sorted") [.ref a]) Q E s := by
  obtain ⟨v1, v2⟩ := F.vals
  have hsz : D.1.size = l.length := F.ok.sz
  refine Calls.call_function_entry kind_sorted plain_sorted entry_sorted (args_sorted1 _) ?_
  unfold Builtin.«sorted»
  refine wpAny_bind (m := checkCount "sorted" 1 1 _) (wpAny_pure ?_)
  refine wpAny_bind (collect_set (A := A.in1) (es := D.1) (ep := D.2.1) (t := D.2.2) hh ⟨_, ho, rfl, rfl⟩ F.ok.fit (by rw [hsz]; exact Nat.lt_trans h64 (by decide)) F.ris F.led fun s1 vs k1 z1 g1 o1 pm => ?_)
  have len : vs.length = l.length := by rw [pm.length_eq, List.length_map, Array.length_toList, hsz]
  have hS : StrsAre vs (vs.map strOf) := strs_of vs fun v hv => by
    obtain ⟨e, he, rfl⟩ := List.mem_map.mp (pm.mem_iff.mp hv)
    obtain ⟨k, tk, q, _⟩ := v1 e he
    exact ⟨k, tk, q⟩
  have pl : (vs.map strOf).Perm l := (pm.map strOf).trans (by rw [List.map_map]; exact v2)
  refine wpAny_bind (wpAny_newList ?_ (by rw [len, sizeLine_eq]; omega))
  have hL : (s1.heap.push (seqObj "list" vs.toArray 0)).get? s1.heap.objs.size = some (seqObj "list" vs.toArray 0) := Heap.get?_push_size _ rfl
  refine wpAny_bind (wpAny_holding (wpAny_call_entry slot_list_sort ⟨_, hL, rfl⟩ entry_list_sort
    (list_sort_treeK strKind_oneLt hL hS.keysOf (fun v₁ v₂ rest e => keyKind_strs (by rw [← e]; exact hS)) (by rw [len]; exact h64) fun st' hp hs => ⟨_, rfl, ?_⟩) (args_list_sort _)))
  obtain ⟨ys, y1, y2, y3⟩ := sorted_out_str hS hp hs
  obtain ⟨c, hc⟩ := sortedHeap_at (vs := vs) (out := (arrOf st').map (·.2)) hL
  refine wpAny_pure ⟨_, rfl, h _ s1.heap.objs.size _ c ys (fun b u e => ?_) g1 o1 z1 (by rw [Array.toArray_toList]; exact hc) y1 (y2.trans pl) y3⟩
  have q := k1 b u e
  have hb := Heap.lt_size q
  show (sortedHeap (s1.heap.push (seqObj "list" vs.toArray 0)) s1.heap.objs.size vs _).get? b = some u
  rw [sortedHeap_old (Nat.ne_of_lt hb) (by rw [size_push']; exact Nat.lt_succ_of_lt hb)]
  exact Heap.get?_push_of_some _ q
end
/-! ### the rules -/
def SetTx (P : Program) (w : World) (h : Heap) (a : Addr) (l : List Str) : Prop := ∃ D, h.get? a = some (sObj "set" D) ∧ Tx P w D l
def SetTxO (P : Program) (w : World) (a : Addr) (l : List Str) : HO := .ext fun h => SetTx P w h a l
section
variable {X : Cx}
theorem setTxO_new {P : Program} {w : World} {H : Hp} {h : Heap} {a : Addr} {l : List Str} (R : SetTx P w h a l) : ObjOk P w H h a (SetTxO P w a l) := by
  have ⟨D, ho, F⟩ := R
  exact ⟨R, ⟨_, ho⟩, fun h1 h2 z p => let ⟨D, e, F⟩ := z; ⟨D, p _ e, F⟩⟩
/-- a call of a built-in that lays one new object and moves nothing else -/
theorem laid_new {pins : List (Addr × Obj)} {σ : L2.St} {H : Hp} {s s' : Shared} {p : Addr} {o : HO} {Q : VK} (I : Inv X pins σ H s) (k : ∀ b u, s.heap.get? b = some u → s'.heap.get? b = some u) (g : s'.gens = s.gens) (ho : s'.os = s.os)
    (hp : s.heap.objs.size ≤ p) (new : ObjOk X.prog X.w (upd H p o) s'.heap p o) (q : H p = none → Q (.ref p) (upd H p o)) : EP X pins σ Q (.ref p) s' := by
  have hn : H p = none := I.hok.fresh hp
  exact ⟨.ref p, _, I.call' ho (ch := []) (Un.laid k hp hn) (I.hok.laid k hp new) (by rw [g]; exact I.bare) (fun _ z => nomatch z), rfl, q hn⟩
/-- set(text) -/
theorem cr_setText (hc : X.calm = true) : CallR X (.type "set") (fun xs H Q => ∃ x, xs = [.str x] ∧ x.length < 4000 ∧ ∀ a l, H a = none → l.Nodup → (∀ k, k ∈ l ↔ k ∈ parts x) → Q (.ref a) (upd H a (SetTxO X.prog X.w a l))) := by
  intro pins s σ H vs us Q I r h
  obtain ⟨x, rfl, hx, q⟩ := h
  obtain ⟨u, rfl, rx⟩ := vals1 r
  obtain ⟨tk, rfl⟩ := rx
  have hx : x.cps.size < 4000 := hx
  refine call_set_text (I.ok.hd hc) (Nat.lt_trans (Nat.succ_lt_succ hx) (by decide)) fun s' D l k g o hS F hm => ?_
  exact laid_new I k g o (Nat.le_refl _) (setTxO_new ⟨D, hS, F⟩) fun hn => q _ l hn F.nd hm
/-- sorted(set of texts) -/
theorem cr_sortedText (hc : X.calm = true) : CallR X (.builtin "sorted") (fun xs H Q => ∃ a l, xs = [.ref a] ∧ H a = some (SetTxO X.prog X.w a l) ∧ l.length < 64 ∧ ∀ ys p, ys.Perm l → sortedS ys = true → H p = none → Q (.ref p) (upd H p (.lst (ys.map .str)))) := by
  intro pins s σ H vs us Q I r h
  obtain ⟨a, l, rfl, ha, h64, q⟩ := h
  rw [Vals.ref1 r]
  obtain ⟨D, hS, F⟩ : SetTx X.prog X.w s.heap a l := (I.hok a _ ha).1
  refine sorted_set_text hS F (I.ok.hd hc) h64 fun s' p out c ys k g o hp hg hv pm so => ?_
  have len : (ys.map V.str).length ≤ sizeLine := by rw [List.length_map, pm.length_eq, sizeLine_eq]; omega
  have new : ObjOk X.prog X.w (upd H p (.lst (ys.map V.str))) s'.heap p (.lst (ys.map .str)) := ⟨len, out, c, vals_of_strs hv, hg⟩
  exact laid_new I k g o hp new fun hn => q ys p pm so hn
/-- list(text) -/
theorem cr_listText (hc : X.calm = true) : CallR X (.type "list") (fun xs H Q => ∃ x, xs = [.str x] ∧ x.length ≤ sizeLine ∧ ∀ p, H p = none → Q (.ref p) (upd H p (.lst ((parts x).map .str)))) := by
  intro pins s σ H vs us Q I r h
  obtain ⟨x, rfl, hx, q⟩ := h
  obtain ⟨u, rfl, rx⟩ := vals1 r
  obtain ⟨tk, rfl⟩ := rx
  have hx : x.cps.size ≤ sizeLine := hx
  refine call_list_str (I.ok.hd hc) x tk (hn := hx) fun h' t' acc c k hS it => ?_
  have hv : StrsAre acc.toList (parts x) := by
    have st := strs_of acc.toList fun v hv => by
      obtain ⟨i, hi, e⟩ := List.getElem_of_mem hv
      obtain ⟨c, u, _, q⟩ := it.2 i v (by rw [← Array.getElem?_toList, List.getElem?_eq_getElem hi, e])
      exact ⟨_, u, q⟩
    have e : acc.toList.map strOf = parts x := by
      apply List.ext_getElem?
      intro i
      rw [List.getElem?_map, List.getElem?_map, Array.getElem?_toList, Array.getElem?_toList]
      cases ha : acc[i]? with
      | none =>
        have z : x.cps[i]? = none := by
          have z1 := Array.getElem?_eq_none_iff.mp ha
          rw [it.1] at z1
          exact Array.getElem?_eq_none_iff.mpr z1
        rw [z]; rfl
      | some v =>
        obtain ⟨c, u, h1, h2⟩ := it.2 i v ha
        rw [h1, h2]; rfl
    rw [e] at st
    exact st
  have len : ((parts x).map V.str).length ≤ sizeLine := by
    rw [List.length_map, List.length_map, Array.length_toList]
    exact hx
  have new : ObjOk X.prog X.w (upd H s.heap.objs.size (.lst ((parts x).map V.str))) h' s.heap.objs.size (.lst ((parts x).map .str)) := ⟨len, acc.toList, c, vals_of_strs hv, by rw [Array.toArray_toList]; exact hS⟩
  exact laid_new (s' := { s with heap := h', toks := t' }) I k rfl rfl (Nat.le_refl _) new (q _)
end
end Vs

set_option Elab.async false
set_option linter.all false
set_option maxRecDepth 100000
set_option maxHeartbeats 4000000
namespace L2
namespace Vx
open PySem PySem.Spec PyProof.Rows
/-! ### a def that is called where no repr is under way (so that repr may be called in it) -/
structure FnG (P : Program) (w : World) (K : PySem.W.Frag) (mg : Str → Option Value) (base : Heap) (k : Nat) (f : Addr) (fd : FuncData) (ps : List Str) (sp : Sp) : Prop where
  run : ∀ (A : Around) (outer : List Env) (s : Shared) (H : Hp) (args : Args) (us : List Value) (vs : List V) (Q : VK) (E : XK), Room k A → A.guards = some [] → Env0 P w K mg base A outer s H → BindsTo s fd args (ps.zip us) → Vals vs us → sp vs H Q E →
    codeAny (model P w) A (.call (.ref f) args) (CR CX0 outer P w H s Q E) s
section
variable {P : Program} {w : World} {K : PySem.W.Frag} {mg : Str → Option Value} {base : Heap}
theorem FunG {x qual : Str} {st : Stmt} {f : Addr} {fd : FuncData} {N ps : List Str} {k : Nat} {sp : Sp} (F : Fun K x qual st f fd) (S : FnScope N ps (defScope st)) (len : ∀ vs H Q E, sp vs H Q E → vs.length = ps.length)
    (hbody : ∀ (cdv : Value) (A : Around) (outer : List Env) (s : Shared) (H : Hp) (vs : List V) (Q : VK) (E : XK), Room k (A.deeper (envOfC qual (defScope st) s.heap.objs.size f cdv)) → A.guards = some [] → sp vs H Q E →
      ∃ t, PSs (cxOf CX0 P w K mg base N qual (defScope st) f cdv A outer s H E).nox (defBody st) t ∧ t { nx := fun _ H' => Q .non H', rt := Q } (start N vs) H) : FnG P w K mg base (k + 1) f fd ps sp := by
  obtain ⟨oc, od, kV, doc, pm, an, cdv, ct, osl, rfl, lk, hcd⟩ := F.ex
  refine ⟨fun A outer s H args us vs Q E hr hgd e0 hb r hsp => ?_⟩
  obtain ⟨t, ht0, hq⟩ := hbody cdv A outer s H vs Q E (hr.deeper _) hgd hsp
  have ht := ht0.nox
  have hl := len _ _ _ _ hsp
  have KX : K.In s.heap := e0.mod.kin.keeps fun b o e => (e0.bs b o e).1
  have lim : s.heap.NoLimit := e0.mod.nolimit.keeps fun b o e => (e0.bs b o e).1
  have hkind : ∀ y ∈ ps.zip us, (defScope st).names.lookup y.1 = some .local ∨ ((defScope st).names.lookup y.1 = some .cell ∧ ((cellsFrom (s.heap.objs.size + 1) (defScope st).names []).lookup y.1).isSome = true) := by
    rintro ⟨n, v⟩ hy
    rcases S.par n (List.of_mem_zip hy).1 with q | q
    · exact .inl q
    · exact .inr ⟨q, PySem.W.cellsFrom_some _ _ _ (.inl q)⟩
  refine codeAny_call_function hr.depth (KX _ _ lk) rfl S.co S.gen rfl (PySem.W.codeRec_of KX hcd) (hb _ _ _ _ ?_)
  refine wpAny_newFunctionEnv_cells S.kind hkind fun env he s1 x => ?_
  subst he
  refine ⟨lim.keeps x.toInCall.keep, codeAny_func ?_⟩
  have I := inv_start (CX := CX0) (E := E) S hr.hd e0 hl r x
  refine wpAny_mono (ht.run [] s1 (start N vs) H _ I hq) (fun fl s' hs => ?_) fun e s' hs => hs
  cases fl with
  | ret u =>
    obtain ⟨v, σ', H', J, rv, q⟩ := hs
    exact ⟨v, H', J.os, J.bare, J.base, J.hok, rv, q⟩
  | next =>
    obtain ⟨σ', H', J, q⟩ := hs
    exact ⟨V.non, H', J.os, J.bare, J.base, J.hok, rfl, q⟩
  | brk => obtain ⟨_, _, _, q⟩ := hs; exact q.elim
  | cont => obtain ⟨_, _, _, q⟩ := hs; exact q.elim
theorem law_callG {mb : Str → Option Value} {k : Nat} {fa a : Addr} {fd : FuncData} {x : Str} {sp : Sp} {s₁ : Shared} {vs : List Value} {ns : List Int}
    (KX : K.In s₁.heap) (hns : s₁.heap.Ns mainGlobals mg) (hb : s₁.heap.Ns builtinsNs mb) (hbb : ∀ x : Str, x ≠ "__name__" → mb x = bootBuiltins x) (hlim : s₁.heap.NoLimit) (hg : s₁.gens = #[])
    (ha : s₁.heap.get? a = some { cls := .type "list", data := .seq vs.toArray }) (hi : IntsAre vs ns) (hl : ns.length ≤ sizeLine) (hr : Room k callerA)
    (F : ∀ base : Heap, K.In base → base.Ns mainGlobals mg → FnG P w K mg base k fa fd [x] sp) (hbind : ∀ (s : Shared) (u : Value), BindsTo s fd ⟨[u], []⟩ [(x, u)])
    (hsp : ∀ H : Hp, Only H → SqL K H a (ns.map V.int) → sp [.ref a] H (fun v _ => v = .bl true) fun _ _ _ => False) :
    codeAny (model P w) callerA (.call (.ref fa) ⟨[.ref a], []⟩) (fun r s' => r = .ok (.ret (.bool true)) ∧ OldK s₁.heap s'.heap ∧ s'.os = s₁.os ∧ AllBare s'.gens) s₁ := by
  have rv := vals_ints hi
  have lenV := hi.length
  have core : ∀ H : Hp, Only H → SqL K H a (ns.map V.int) → HOk P w H s₁.heap → (∀ b, H b ≠ none → b = a) → (H a ≠ none → K.lookup a = none) →
      codeAny (model P w) callerA (.call (.ref fa) ⟨[.ref a], []⟩) (fun r s' => r = .ok (.ret (.bool true)) ∧ OldK s₁.heap s'.heap ∧ s'.os = s₁.os ∧ AllBare s'.gens) s₁ := by
    intro H hO hS hok hA hK
    have only : ∀ {b : Addr} {u : HO}, H b = some u → b = a := fun {b u} q => hA b (by rw [q]; exact fun z => nomatch z)
    have nsK : ∀ {b : Addr} {m : Str → Option Value}, s₁.heap.Ns b m → (hidT s₁.heap H).Ns b m := by
      rintro b m ⟨o, es, ep, e, d, r⟩
      refine ⟨o, es, ep, hidT_get e ?_, d, r⟩
      cases q : H b with
      | none => rfl
      | some u =>
        obtain rfl := only q
        rw [ha] at e
        cases e
        exact nomatch (show Data.seq vs.toArray _ = Data.dict es ep from d)
    have hKb : K.In (hidT s₁.heap H) := by
      intro b o e
      refine hidT_get (KX b o e) ?_
      cases q : H b with
      | none => rfl
      | some u =>
        obtain rfl := only q
        rw [hK (by rw [q]; exact fun z => nomatch z)] at e
        cases e
    have hM : Mod K mg (hidT s₁.heap H) := ⟨hKb, nsK hns, ⟨mb, nsK hb, hbb⟩, let ⟨mc, h1, h2⟩ := hlim; ⟨mc, nsK h1, h2⟩⟩
    have e0 : Env0 P w K mg (hidT s₁.heap H) callerA [] s₁ H :=
      ⟨rfl, hM, fun b o e => of_hidT e, Nat.le_of_eq (hidT_size _ _), trivial, fun b hb => absurd (show b ∈ ([] : List Addr) from hb) (by simp), hok, .of_eq hg⟩
    refine codeAny_mono ((F _ hKb (nsK hns)).run callerA [] s₁ H ⟨[.ref a], []⟩ [.ref a] [.ref a] _ _ hr rfl e0 (hbind s₁ (.ref a)) (.cons rfl .nil) (hsp H hO hS)) fun r s' h => ?_
    cases r with
    | error e => exact (show False from h).elim
    | ok fl =>
      cases fl with
      | next => exact False.elim h
      | brk => exact False.elim h
      | cont => exact False.elim h
      | ret u =>
        obtain ⟨v, H', os, bare, un, hok', r', q⟩ := h
        obtain rfl : v = .bl true := q
        obtain rfl : u = Value.bool true := r'
        refine ⟨rfl, OldK.of_keep fun b o e => ?_, os, bare⟩
        cases q : H b with
        | none => exact un.keep b o e q (fun z => absurd (show b ∈ ([] : List Addr) from z) (by simp)) (by simp)
        | some u =>
          rcases hO b with z | ⟨ob, xs, z⟩
          · rw [q] at z; cases z
          · obtain ⟨e1, _⟩ := hok b _ z
            obtain ⟨e2, _⟩ := hok' b _ (un.frzs b ob _ z)
            rw [e] at e1
            cases e1
            exact e2
  cases hk : K.lookup a with
  | some o =>
    have e := KX a o hk
    rw [ha] at e
    cases e
    exact core (fun _ => none) (fun _ => .inl rfl) (.inr ⟨_, vs.toArray, _, hk, rfl, rfl, rfl, by rw [List.size_toArray, lenV]; exact hl, by simpa using rv⟩) (fun b u z => nomatch (show (none : Option HO) = some u from z)) (fun b z => absurd rfl z) fun z => absurd rfl z
  | none =>
    have at_a : (fun b => if b = a then some (HO.frz { cls := .type "list", data := .seq vs.toArray } (.lst (ns.map V.int))) else none) a = some (.frz { cls := .type "list", data := .seq vs.toArray } (.lst (ns.map V.int))) := if_pos rfl
    refine core (fun b => if b = a then some (.frz { cls := .type "list", data := .seq vs.toArray } (.lst (ns.map V.int))) else none) (fun b => ?_) (.inl (.inr ⟨_, at_a⟩)) (fun b u z => ?_) (fun b z => ?_) fun _ => hk
    · by_cases hb : b = a
      · exact .inr ⟨_, _, if_pos hb⟩
      · exact .inl (if_neg hb)
    · by_cases hb : b = a
      · cases (if_pos hb).symm.trans z
        subst hb
        exact ⟨ha, by rw [List.length_map]; exact hl, vs, _, rv, ha⟩
      · cases (if_neg hb).symm.trans z
    · by_cases hb : b = a
      · exact hb
      · exact absurd (if_neg hb) z
end
theorem walk_ofG {l : PySem.W.OpenLaw} {n k : Nat} {q : Program} {loose : List Str} {XP : (Str → Option Value) → Heap → Prop} {YP : World → Heap → Prop} {d : DefRec} {K : Params → PySem.W.Frag} {sp : World → Sp} {x : Str}
    (hn : l.most = some n) (hn2 : n ≤ sizeLine) (hdf : d.params.defaults = []) (hr : Room k callerA) (hY : ∀ (w : World) (h : Heap), YP w h → (K w.params).In h)
    (F : ∀ (w : World) (mg : Str → Option Value) (fa : Addr) (h : Heap), (K w.params).In h → h.Ns mainGlobals mg → mg d.name = some (.ref fa) →
      ∃ fd : FuncData, (∀ (s : Shared) (u : Value), BindsTo s fd ⟨[u], []⟩ [(x, u)]) ∧ ∀ base : Heap, (K w.params).In base → base.Ns mainGlobals mg → FnG l.prog w (K w.params) mg base k fa fd [x] (sp w))
    (hsp : ∀ (w : World) (H : Hp) (a : Addr) (ns : List Int), ns.length ≤ n → Only H → SqL (K w.params) H a (ns.map V.int) → sp w [.ref a] H (fun v _ => v = .bl true) fun _ _ _ => False) :
    PySem.W.WalkO q loose XP YP l.row.toRowW d [] (fun f vs => PySem.call f vs) := by
  refine Att.attach_call hn hdf fun w s₀ s₁ mg mb fa o pm cd doc a vs ns G Y ho hd hcd hmg hobj hints hlen hg => ?_
  have KX := hY w _ Y
  obtain ⟨fd, hb, hF⟩ := F w mg fa _ KX G.T.g hmg
  exact law_callG KX G.T.g G.T.b G.T.builtins G.T.nolimit hg hobj hints (Nat.le_trans hlen hn2) hr hF hb (fun H hO hS => hsp w H a ns hlen hO hS)
end Vx
end L2

set_option Elab.async false
set_option linter.all false
set_option maxRecDepth 100000
set_option maxHeartbeats 4000000
/-! ### values that can be shown: repr of any of them, whatever stands in sys.modules' place -/
namespace PySem
namespace Vr
section
mutual
inductive RdX (h : Heap) : Value → PyData → Prop
  | leaf {v d} (r : Reads h v d []) : RdX h v d
  | list {a o vs n xs} : h.get? a = some o → o.cls = .type "list" → o.data = .seq vs n → RdXAll h vs.toList xs → RdX h (.ref a) (.list xs)
  | tuple {a o vs n xs} : h.get? a = some o → o.cls = .type "tuple" → o.data = .seq vs n → RdXAll h vs.toList xs → RdX h (.ref a) (.tuple xs)
  | dict {a o es n kvs} : h.get? a = some o → o.cls = .type "dict" → o.data = .dict es n → ReadsAll h (es.toList.map (·.key)) (kvs.map (·.1)) [] → ReadsAll h (es.toList.map (·.val)) (kvs.map (·.2)) [] → (a == sysModules) = false → RdX h (.ref a) (.dict kvs)
inductive RdXAll (h : Heap) : List Value → List PyData → Prop
  | nil : RdXAll h [] []
  | cons {v vs d ds} : RdX h v d → RdXAll h vs ds → RdXAll h (v :: vs) (d :: ds)
end
mutual
theorem RdX.reads {h : Heap} : ∀ {v : Value} {d : PyData}, RdX h v d → ∃ as, Reads h v d as
  | _, _, .leaf r => ⟨[], r⟩
  | _, _, .list h1 h2 h3 h4 => let ⟨as, r⟩ := RdXAll.reads h4; ⟨_, .list h1 h2 h3 r⟩
  | _, _, .tuple h1 h2 h3 h4 => let ⟨as, r⟩ := RdXAll.reads h4; ⟨_, .tuple h1 h2 h3 r⟩
  | _, _, .dict h1 h2 h3 h4 h5 _ => ⟨_, .dict h1 h2 h3 h4 h5⟩
theorem RdXAll.reads {h : Heap} : ∀ {vs : List Value} {ds : List PyData}, RdXAll h vs ds → ∃ as, ReadsAll h vs ds as
  | _, _, .nil => ⟨[], .nil⟩
  | _, _, .cons r rs => let ⟨as, q⟩ := RdX.reads r; let ⟨bs, qs⟩ := RdXAll.reads rs; ⟨_, .cons q qs⟩
end
variable {prog : Program} {w : World} {h₀ : Heap}
theorem dict_parts {a : Addr} {o : Obj} {es : Array DictEntry} {n : Nat} {kvs : List (PyData × PyData)} (h1 : h₀.get? a = some o) (h2 : o.cls = .type "dict") (h3 : o.data = .dict es n) (h4 : ReadsAll h₀ (es.toList.map (·.key)) (kvs.map (·.1)) [])
    (h5 : ReadsAll h₀ (es.toList.map (·.val)) (kvs.map (·.2)) []) (hs : PyData.showableKv kvs = true) (hz : (dictText (PyData.shownKv kvs)).length ≤ sizeLine) :
    ∃ bs, a ∉ bs ∧ ReadAtMost h₀ (PyData.depthKv kvs) bs ∧ ReprEntriesK prog w bs h₀ (PyData.depthKv kvs) es.toList (PyData.shownKv kvs) := by
  obtain ⟨s1, s2⟩ := PyData.showableKv_split kvs hs
  have no : sysModules ∉ ([] : List Addr) := fun z => nomatch z
  obtain ⟨b1, g1, k1⟩ := ReprAllK.of_readsAll (prog := prog) (w := w) h4 s1 (fun _ => no) fun t ht => by
    obtain ⟨p, hp, hl⟩ := PyData.shownKv_key_le kvs t ht
    exact Nat.le_trans hl (Nat.le_trans (dictText_mem_le hp) hz)
  obtain ⟨b2, g2, k2⟩ := ReprAllK.of_readsAll (prog := prog) (w := w) h5 s2 (fun _ => no) fun t ht => by
    obtain ⟨p, hp, hl⟩ := PyData.shownKv_val_le kvs t ht
    exact Nat.le_trans hl (Nat.le_trans (dictText_mem_le hp) hz)
  have g : ReadAtMost h₀ (PyData.depthKv kvs) (b1 ++ b2) := (g1.mono (PyData.depthAll_keys_le kvs)).append (g2.mono (PyData.depthAll_vals_le kvs))
  refine ⟨b1 ++ b2, not_mem_of_deeper (.dict h1 h2 h3 h4 h5) (by simp only [PyData.depth]; omega) g, g, ?_⟩
  rw [PyData.shownKv_eq]
  exact ReprEntriesK.of_two es.toList _ _ (k1.more_le (fun b hb => List.mem_append_left _ hb) (PyData.depthAll_keys_le kvs)) (k2.more_le (fun b hb => List.mem_append_right _ hb) (PyData.depthAll_vals_le kvs))
mutual
theorem reprK_of : ∀ {v : Value} {d : PyData}, RdX h₀ v d → d.showable = true → d.shown.length ≤ sizeLine → ∃ bs, ReadAtMost h₀ d.depth bs ∧ ReprK prog w bs h₀ d.depth v d.shown
  | _, _, .leaf r, hs, hz => ReprK.of_reads r hs (fun _ z => nomatch z) hz
  | _, _, .list (a := a) (vs := vs) (xs := xs) h1 h2 h3 h4, hs, hz => by
    simp only [PyData.shown] at hz
    obtain ⟨bs, g, k⟩ := reprAllK_of h4 (by simpa [PyData.showable] using hs) fun t ht => Nat.le_trans (listText_mem_le ht) hz
    obtain ⟨as, r⟩ := RdX.reads (.list h1 h2 h3 h4)
    refine ⟨a :: bs, ReadAtMost.cons r (by simp only [PyData.depth]; omega) g, ?_⟩
    have na : a ∉ bs := not_mem_of_deeper r (by simp only [PyData.depth]; omega) g
    simp only [PyData.depth, PyData.shown]
    obtain ⟨l⟩ := vs
    cases l with
    | nil =>
      cases (show RdXAll h₀ [] xs from h4)
      simp only [PyData.shownAll, listText_nil]
      exact ReprK.listEmpty h1 h2 h3
    | cons x l => exact ReprK.list h1 h2 h3 na (by simpa using k.length_eq) fun i y e => k.item i y (by simpa using e)
  | _, _, .tuple (a := a) (xs := xs) h1 h2 h3 h4, hs, hz => by
    simp only [PyData.shown] at hz
    obtain ⟨bs, g, k⟩ := reprAllK_of h4 (by simpa [PyData.showable] using hs) fun t ht => Nat.le_trans (tupleText_mem_le ht) hz
    obtain ⟨as, r⟩ := RdX.reads (.tuple h1 h2 h3 h4)
    refine ⟨a :: bs, ReadAtMost.cons r (by simp only [PyData.depth]; omega) g, ?_⟩
    simp only [PyData.depth, PyData.shown]
    exact ReprK.tuple h1 h2 h3 (not_mem_of_deeper r (by simp only [PyData.depth]; omega) g) k
  | _, _, .dict (a := a) (kvs := kvs) h1 h2 h3 h4 h5 h6, hs, hz => by
    simp only [PyData.shown] at hz
    obtain ⟨bs, na, g, k⟩ := dict_parts (prog := prog) (w := w) h1 h2 h3 h4 h5 (by simpa [PyData.showable] using hs) hz
    refine ⟨a :: bs, ReadAtMost.cons (.dict h1 h2 h3 h4 h5) (by simp only [PyData.depth]; omega) g, ?_⟩
    simp only [PyData.depth, PyData.shown]
    exact ReprK.dict h1 h2 h3 h6 na k
theorem reprAllK_of : ∀ {vs : List Value} {ds : List PyData}, RdXAll h₀ vs ds → PyData.showableAll ds = true → (∀ t ∈ PyData.shownAll ds, t.length ≤ sizeLine) →
    ∃ bs, ReadAtMost h₀ (PyData.depthAll ds) bs ∧ ReprAllK prog w bs h₀ (PyData.depthAll ds) vs (PyData.shownAll ds)
  | _, _, .nil, _, _ => ⟨[], (fun _ h => nomatch h), by simp only [PyData.shownAll]; exact .nil⟩
  | _, _, .cons (d := d) (ds := ds) r rs, hs, hz => by
    have hs' : d.showable = true ∧ PyData.showableAll ds = true := by simpa [PyData.showableAll] using hs
    obtain ⟨b1, g1, k1⟩ := reprK_of r hs'.1 (hz _ (by simp only [PyData.shownAll]; exact List.mem_cons_self ..))
    obtain ⟨b2, g2, k2⟩ := reprAllK_of rs hs'.2 (fun t ht => hz t (by simp only [PyData.shownAll]; exact List.mem_cons_of_mem _ ht))
    refine ⟨b1 ++ b2, fun b hm => ?_, ?_⟩
    · simp only [PyData.depthAll]
      rcases List.mem_append.mp hm with hm | hm
      · obtain ⟨d', as', r', hd'⟩ := g1 b hm
        exact ⟨d', as', r', Nat.le_trans hd' (Nat.le_max_left _ _)⟩
      · obtain ⟨d', as', r', hd'⟩ := g2 b hm
        exact ⟨d', as', r', Nat.le_trans hd' (Nat.le_max_right _ _)⟩
    · simp only [PyData.depthAll, PyData.shownAll]
      exact .cons ((k1.more fun b hb => List.mem_append_left _ hb).level_le (Nat.le_max_left _ _)) (k2.more_le (fun b hb => List.mem_append_right _ hb) (Nat.le_max_right _ _))
end
/-- repr(v) -/
theorem repr_call {s : Shared} {A : Around} {E : Value → Shared → Prop} {Q : Value → Shared → Prop} {v : Value} {d : PyData} (r : RdX s.heap v d) (hs : d.showable = true) (hz : d.shown.length ≤ sizeLine) (hg : A.guards = some []) (hu : A.units + (d.depth + 1) < cLine)
    (hQ : ∀ h' u tk, (∀ b o, s.heap.get? b = some o → h'.get? b = some o) → Q (.str d.shown u) { s with heap := h', toks := tk }) : wpAny (model prog w) A (call (.builtin "repr") [v]) Q E s := by
  have hu' : A.in1.units + d.depth < cLine := by
    show A.units + 1 + d.depth < cLine
    omega
  have keep : ∀ b o, s.heap.get? b = some o → s.heap.get? b = some o := fun _ _ e => e
  cases r with
  | leaf r =>
    cases r with
    | none => simp only [PyData.shown] at hQ; exact P.repr_of_none (hQ s.heap _ _ keep)
    | bool b => simp only [PyData.shown] at hQ; exact P.repr_of_bool (hQ s.heap _ _ keep)
    | int i t => simp only [PyData.shown] at hQ; exact P.repr_of_int (by simpa [PyData.showable] using hs) (hQ s.heap _ _ keep)
    | str x t => simp only [PyData.shown] at hQ hz; exact P.repr_of_str (hQ s.heap _ _ keep) hz
    | tuple h1 h2 h3 h4 => exact repr_of_reads' (.tuple h1 h2 h3 h4) hs (fun _ z => nomatch z) hg hu keep (fun h' u tk k => hQ h' u tk k) hz
  | list h1 h2 h3 h4 =>
    rename_i a o vs n xs
    obtain ⟨as, r⟩ := RdX.reads (.list h1 h2 h3 h4)
    simp only [PyData.shown] at hQ hz
    obtain ⟨bs, g, k⟩ := reprAllK_of (prog := prog) (w := w) h4 (by simpa [PyData.showable] using hs) fun t ht => Nat.le_trans (listText_mem_le ht) hz
    have na : a ∉ bs := not_mem_of_deeper r (by simp only [PyData.depth]; omega) g
    simp only [PyData.depth] at hu'
    refine call_repr_slot (T := "list") (idr := "list.__repr__") (by omega) ⟨o, h1, h2⟩ F.slot_list_repr.toG ?_
    obtain ⟨l⟩ := vs
    cases l with
    | nil =>
      cases (show RdXAll s.heap [] xs from h4)
      simp only [PyData.shownAll, listText_nil] at hQ
      exact call_list_repr_empty ⟨o, h1, h2⟩ h1 h3 ⟨_, _, rfl, hQ s.heap _ _ keep⟩
    | cons x l => exact call_list_reprK h1 h2 h3 na (by simpa using k.length_eq) (fun i y e => k.item i y (by simpa using e)) hg (fun b _ => Clear.nil b) hu' keep (fun h' u tk kk => ⟨_, _, rfl, hQ h' u tk kk⟩) hz
  | tuple h1 h2 h3 h4 =>
    rename_i a o vs n xs
    obtain ⟨as, r⟩ := RdX.reads (.tuple h1 h2 h3 h4)
    simp only [PyData.shown] at hQ hz
    obtain ⟨bs, g, k⟩ := reprAllK_of (prog := prog) (w := w) h4 (by simpa [PyData.showable] using hs) fun t ht => Nat.le_trans (tupleText_mem_le ht) hz
    have na : a ∉ bs := not_mem_of_deeper r (by simp only [PyData.depth]; omega) g
    simp only [PyData.depth] at hu'
    exact call_repr_slot (T := "tuple") (idr := "tuple.__repr__") (by omega) ⟨o, h1, h2⟩ F.slot_tuple_repr
      (call_tuple_reprK h1 h2 h3 na k hg (fun b _ => Clear.nil b) hu' keep (fun h' u tk kk => ⟨_, _, rfl, hQ h' u tk kk⟩) hz)
  | dict h1 h2 h3 h4 h5 h6 =>
    simp only [PyData.shown] at hQ hz
    obtain ⟨bs, na, g, k⟩ := dict_parts (prog := prog) (w := w) h1 h2 h3 h4 h5 (by simpa [PyData.showable] using hs) hz
    simp only [PyData.depth] at hu'
    exact call_repr_slot (T := "dict") (idr := "dict.__repr__") (by omega) ⟨_, h1, h2⟩ F.slot_dict_repr
      (call_dict_reprK h1 h2 h3 h6 na k hg (fun b _ => Clear.nil b) hu' keep (fun h' u tk kk => ⟨_, _, rfl, hQ h' u tk kk⟩) hz)
end
end Vr
end PySem

set_option Elab.async false
set_option linter.all false
set_option maxRecDepth 100000
set_option maxHeartbeats 4000000
namespace L2
namespace Vx
open PySem PySem.Spec PyProof.Rows PySem.Vr
/-! ### values as data: trees of lists and tuples over flat things; a dict holds flat things alone; S: where they may stand -/
def FlatD : V → PyData → Prop
  | .non, d => d = .none
  | .bl b, d => d = .bool b
  | .int i, d => d = .int i
  | .str x, d => d = .str x
  | _, _ => False
def kD : Key → PyData
  | .inl i => .int i
  | .inr x => .str x
inductive FlatP : List (Key × V) → List (PyData × PyData) → Prop
  | nil : FlatP [] []
  | cons {k : Key} {v : V} {d : PyData} {r : List (Key × V)} {ds : List (PyData × PyData)} : FlatD v d → FlatP r ds → FlatP ((k, v) :: r) ((kD k, d) :: ds)
section
mutual
inductive Dt (H : Hp) (S : Addr → Prop) : V → PyData → Prop
  | flat {v d} : FlatD v d → Dt H S v d
  | lst {a xs ds} : H a = some (.lst xs) → S a → DtAll H S xs ds → Dt H S (.ref a) (.list ds)
  | tup {a xs ds} : H a = some (.tup xs) → S a → DtAll H S xs ds → Dt H S (.ref a) (.tuple ds)
  | dct {a kvs ds} : H a = some (.dK kvs) → S a → FlatP kvs ds → Dt H S (.ref a) (.dict ds)
inductive DtAll (H : Hp) (S : Addr → Prop) : List V → List PyData → Prop
  | nil : DtAll H S [] []
  | cons {v vs d ds} : Dt H S v d → DtAll H S vs ds → DtAll H S (v :: vs) (d :: ds)
end
mutual
theorem Dt.mono {H H' : Hp} {S S' : Addr → Prop} (k : ∀ a o, S a → H a = some o → H' a = some o) (ks : ∀ a o, S a → H a = some o → S' a) : ∀ {v : V} {d : PyData}, Dt H S v d → Dt H' S' v d
  | _, _, .flat h => .flat h
  | _, _, .lst h s r => .lst (k _ _ s h) (ks _ _ s h) (DtAll.mono k ks r)
  | _, _, .tup h s r => .tup (k _ _ s h) (ks _ _ s h) (DtAll.mono k ks r)
  | _, _, .dct h s r => .dct (k _ _ s h) (ks _ _ s h) r
theorem DtAll.mono {H H' : Hp} {S S' : Addr → Prop} (k : ∀ a o, S a → H a = some o → H' a = some o) (ks : ∀ a o, S a → H a = some o → S' a) : ∀ {vs : List V} {ds : List PyData}, DtAll H S vs ds → DtAll H' S' vs ds
  | _, _, .nil => .nil
  | _, _, .cons h r => .cons (Dt.mono k ks h) (DtAll.mono k ks r)
end
theorem DtAll.append {H : Hp} {S : Addr → Prop} : ∀ {vs ws : List V} {ds es : List PyData}, DtAll H S vs ds → DtAll H S ws es → DtAll H S (vs ++ ws) (ds ++ es)
  | _, _, _, _, .nil, r => r
  | _, _, _, _, .cons h t, r => .cons h (DtAll.append t r)
theorem FlatD.reads {h : Heap} {v : V} {u : Value} {d : PyData} (f : FlatD v d) (r : RelV v u) : Reads h u d [] := by
  cases v with
  | non => cases (show d = .none from f); cases (show u = Value.none from r); exact .none
  | bl b => cases (show d = .bool b from f); cases (show u = Value.bool b from r); exact .bool b
  | int i => cases (show d = .int i from f); obtain ⟨t, rfl⟩ := (show ∃ t, u = Value.int i t from r); exact .int i t
  | str x => cases (show d = .str x from f); obtain ⟨t, rfl⟩ := (show ∃ t, u = Value.str x t from r); exact .str x t
  | byt b => exact (show False from f).elim
  | flt b => exact (show False from f).elim
  | ref b => exact (show False from f).elim
  | ty b => exact (show False from f).elim
theorem readsAll_cons0 {h : Heap} {v : Value} {vs : List Value} {d : PyData} {ds : List PyData} (a : Reads h v d []) (b : ReadsAll h vs ds []) : ReadsAll h (v :: vs) (d :: ds) [] := .cons (as := []) (bs := []) a b
theorem flatP_reads {P : Program} {w : World} {h : Heap} : ∀ {kvs : List (Key × V)} {ds : List (PyData × PyData)} {vs : List (Key × Value)} {es : List DictEntry}, FlatP kvs ds → KV kvs vs → Pairs (mixKind P w) es vs →
    ReadsAll h (es.map (·.key)) (ds.map (·.1)) [] ∧ ReadsAll h (es.map (·.val)) (ds.map (·.2)) []
  | _, _, _, _, .nil, .nil, .nil => ⟨.nil, .nil⟩
  | _, _, _, _, .cons (k := k) f fr, .cons ⟨ek, rv⟩ rr, .cons (e := e0) hk hv hp => by
    obtain ⟨i1, i2⟩ := flatP_reads fr rr hp
    refine ⟨readsAll_cons0 ?_ i1, readsAll_cons0 ?_ i2⟩
    · have hk' : keyIs k e0.key = true := by rw [show k = _ from ek]; exact hk
      rcases keyIs_shape hk' with ⟨i, t, rfl, e⟩ | ⟨x, t, rfl, e⟩
      · show Reads h e0.key (.int i) []
        rw [e]
        exact .int i t
      · show Reads h e0.key (.str x) []
        rw [e]
        exact .str x t
    · exact f.reads (show RelV _ e0.val by rw [hv]; exact rv)
end
section
variable {X : Cx} {pins : List (Addr × Obj)} {σ : L2.St} {H : Hp} {s : Shared} {S : Addr → Prop}
mutual
theorem Dt.rd (I : Inv X pins σ H s) : ∀ {v : V} {d : PyData}, Dt H S v d → ∀ {u : Value}, RelV v u → RdX s.heap u d
  | _, _, .flat f, u, r => .leaf (f.reads r)
  | _, _, .lst (a := a) (xs := xs) h _ q, u, r => by
    cases (show u = Value.ref a from r)
    obtain ⟨_, its, n, rv, e⟩ := (show ObjOk X.prog X.w H s.heap a (.lst xs) from I.hok a _ h)
    exact .list e rfl rfl (DtAll.rd I q rv)
  | _, _, .tup (a := a) (xs := xs) h _ q, u, r => by
    cases (show u = Value.ref a from r)
    obtain ⟨_, its, rv, o, e, c, n, dt⟩ := (show ObjOk X.prog X.w H s.heap a (.tup xs) from I.hok a _ h)
    exact .tuple e c dt (DtAll.rd I q rv)
  | _, _, .dct (a := a) (kvs := kvs) h _ q, u, r => by
    cases (show u = Value.ref a from r)
    obtain ⟨_, hm, vs, rel, o, es, ep, e, hx, hd, _, hp, _⟩ := (show ObjOk X.prog X.w H s.heap a (.dK kvs) from I.hok a _ h)
    obtain ⟨i1, i2⟩ := flatP_reads (h := s.heap) q rel hp
    exact .dict e hx.1 hd i1 i2 hm
theorem DtAll.rd (I : Inv X pins σ H s) : ∀ {vs : List V} {ds : List PyData}, DtAll H S vs ds → ∀ {us : List Value}, Vals vs us → RdXAll s.heap us ds
  | _, _, .nil, _, .nil => .nil
  | _, _, .cons h q, _, .cons r rr => .cons (Dt.rd I h r) (DtAll.rd I q rr)
end
/-- a datum that repr can show -/
structure Shows (d : PyData) : Prop where
  sh : d.showable = true
  len : d.shown.length ≤ 1000000
  dep : d.depth ≤ 60
def rRep (S : Addr → Prop) : List V → Hp → VK → Prop := fun xs H Q => ∃ v d, xs = [v] ∧ Dt H S v d ∧ Shows d ∧ Q (.str d.shown) H
theorem call_rep (hg : X.A.guards = some []) (hu : X.A.units + 100 < cLine) (S : Addr → Prop) : CallR X (.builtin "repr") (rRep S) := by
  intro pins s σ H xs us Q I r h
  obtain ⟨v, d, rfl, hd, z, q⟩ := h
  cases r with
  | cons rv rn =>
    cases rn
    have hl : d.shown.length ≤ sizeLine := Nat.le_trans z.len (by rw [sizeLine_eq]; decide)
    have hdp := z.dep
    exact repr_call (hd.rd I rv) z.sh hl hg (by omega) fun h' u tk k => ⟨.str d.shown, H, I.kept (t' := tk) k, ⟨_, rfl⟩, q⟩
end
end Vx
end L2

set_option Elab.async false
set_option linter.all false
set_option maxRecDepth 100000
set_option maxHeartbeats 4000000
/-! ### texts, any number of them, sorted -/
namespace SrtO
open PySem PyProof.Rows Srt
section
variable {prog : Program} {w : World} {A : Around} {E : Value → Shared → Prop} {s : Shared}
def ltSv (v u : Value) : Bool := decide ((strOf v).cps.toList < (strOf u).cps.toList)
theorem swo_text : Swo ltSv := by
  refine ⟨fun x y h => ?_, fun x y z h1 h2 => ?_⟩
  · have a := of_decide_eq_true (p := (strOf x).cps.toList < (strOf y).cps.toList) h
    exact decide_eq_false (p := (strOf y).cps.toList < (strOf x).cps.toList) (Vm.lt_as a)
  · have a := of_decide_eq_false (p := (strOf y).cps.toList < (strOf x).cps.toList) h1
    have b := of_decide_eq_false (p := (strOf z).cps.toList < (strOf y).cps.toList) h2
    exact decide_eq_false (p := (strOf z).cps.toList < (strOf x).cps.toList) (Vm.le_tr a b)
theorem strs_mem : ∀ {vs : List Value} {ns : List PySem.Str}, StrsAre vs ns → ∀ v ∈ vs, ∃ i t, v = Value.str i t
  | _, _, .nil, v, h => absurd h (by simp)
  | _, _, .cons n t r, v, h => by
    rcases List.mem_cons.mp h with e | h
    · exact ⟨n, t, e⟩
    · exact strs_mem r v h
theorem strs_sv : ∀ {vs : List Value} {ns : List PySem.Str}, StrsAre vs ns → vs.map strOf = ns
  | _, _, .nil => rfl
  | _, _, .cons n t r => congrArg (n :: ·) (strs_sv r)
theorem text_cmp {vs : List Value} {ns : List PySem.Str} (hI : StrsAre vs ns) : Cmp prog w A s oneType' (fun p => p.1 ∈ vs) (lt2 ltSv) := by
  intro p q hm hm'
  obtain ⟨a, t, e⟩ := strs_mem hI _ hm
  obtain ⟨b, u, e'⟩ := strs_mem hI _ hm'
  show wpAny (model prog w) A (keyLt' oneType' p.1 q.1) (fun r s' => s' = s ∧ r = ltSv p.1 q.1) (fun _ _ => False) s
  rw [e, e', keyLt'_oneType]
  exact oneLt_str ⟨rfl, rfl⟩
theorem texts_sortable {a : Addr} {vs : List Value} {ns : List PySem.Str} (hI : StrsAre vs ns) (h2 : 2 ≤ vs.length) : SortableO prog w A s a vs ltSv := by
  intro h' _
  refine ⟨oneType', fun Q E hq => ?_, text_cmp hI⟩
  match vs, hI, h2 with
  | v1 :: v2 :: rest, hI, _ =>
    rw [keyKind_strs hI]
    exact wpAny_pure hq
  | [], _, h => exact absurd h (by decide)
  | [v], _, h => exact absurd h (by simp)
/-- a sorted list of texts -/
abbrev UpS (l : List PySem.Str) : Prop := l.Pairwise fun x y => ¬ y.cps.toList < x.cps.toList
theorem texts_out {vs out : List Value} {ns : List PySem.Str} (hI : StrsAre vs ns) (hs : Srtd ltSv out) (hb : Stb ltSv out vs) : StrsAre out (out.map strOf) ∧ (out.map strOf).Perm ns ∧ UpS (out.map strOf) := by
  refine ⟨Vs.strs_of out fun v hv => strs_mem hI v (hb.perm.mem_iff.mp hv), ?_, ?_⟩
  · have q := hb.perm.map strOf
    rw [strs_sv hI] at q
    exact q
  · exact List.pairwise_map.mpr (hs.imp fun {x y} h => of_decide_eq_false (p := (strOf y).cps.toList < (strOf x).cps.toList) h)
end
end SrtO
namespace Vs
open PySem PySem.Spec PyProof.Rows L2 SrtO
open PySem.Froz (SD sObj addTx tailTx sing TxOk)
section
variable {P : Program} {w : World} {A : Around} {E : Value → Shared → Prop} {s : Shared}
/-- the collected texts, as a new list that is sorted -/
theorem sort_collected {α : Type} {vs : List Value} {ks : List PySem.Str} {s1 : Shared} {t : Value → Sem α} {Q : α → Shared → Prop} (hS : StrsAre vs ks) (hz : vs.length ≤ sizeLine)
    (h : ∀ (h' : Heap) p (out : List Value) (c : Nat) (ys : List PySem.Str), (∀ b o, s1.heap.get? b = some o → h'.get? b = some o) → s1.heap.objs.size ≤ p →
      h'.get? p = some (seqObj "list" out.toArray c) → StrsAre out ys → ys.Perm ks → UpS ys → wpAny (model P w) A (t (.ref p)) Q E { s1 with heap := h' }) :
    wpAny (model P w) A (do
      let r ← newList vs
      let _ ← holding [r] (call (.builtin "list.sort") [r] [])
      t r) Q E s1 := by
  refine wpAny_bind (wpAny_newList ?_ hz)
  have hL : (s1.heap.push (seqObj "list" vs.toArray 0)).get? s1.heap.objs.size = some (seqObj "list" vs.toArray 0) := Heap.get?_push_size _ rfl
  refine wpAny_bind (wpAny_holding (wpAny_call_entry slot_list_sort ⟨_, hL, rfl⟩ entry_list_sort
    (list_sort_ord swo_text hL hz (fun h2 => texts_sortable hS h2) fun out h1 h2 => ⟨_, rfl, ?_⟩) (args_list_sort _)))
  obtain ⟨y1, y2, y3⟩ := texts_out hS h1 h2
  obtain ⟨c, hc⟩ := sortedHeap_at (vs := vs) (out := out.toArray) hL
  refine h _ s1.heap.objs.size out c _ (fun b u q => ?_) (Nat.le_refl _) hc y1 y2 y3
  have hb := Heap.lt_size q
  rw [sortedHeap_old (Nat.ne_of_lt hb) (by rw [size_push']; exact Nat.lt_succ_of_lt hb)]
  exact Heap.get?_push_of_some _ q
end
end Vs

set_option Elab.async false
set_option linter.all false
set_option maxRecDepth 100000
set_option maxHeartbeats 4000000
namespace Vs
open PySem PySem.Spec PyProof.Rows L2 SrtO
open PySem.Froz (SD sObj addTx tailTx sing TxOk)
/-! ### set(d), d a dict whose keys are texts -/
theorem above_go (n : Nat) (hn : n ≤ 8192) : ∀ fuel size, size ≤ 16384 → SetTable.sizeAbove.go n fuel size ≤ 16384
  | 0, size, h => by unfold SetTable.sizeAbove.go; exact h
  | fuel + 1, size, h => by
    unfold SetTable.sizeAbove.go
    split
    · exact above_go n hn fuel (size * 2) (by omega)
    · exact h
theorem above_le {n : Nat} (hn : n ≤ 8192) : SetTable.sizeAbove n ≤ 16384 := above_go n hn 64 8 (by decide)
theorem live_none (m : Nat) : (List.range (m + 1)).filterMap (fun j => ((Array.replicate (m + 1) (none : Option Nat)).getD j none).map (j, ·)) = [] := by
  refine List.filterMap_eq_nil_iff.mpr fun j _ => ?_
  have e : (Array.replicate (m + 1) (none : Option Nat)).getD j none = none := by
    rw [Array.getD_eq_getD_getElem?, Array.getElem?_replicate]
    split <;> rfl
  rw [e]
  rfl
theorem relaid_none (t : SetTable) (n : Nat) : ∃ t', t.relaid #[] n = some (t', #[]) ∧ t'.place = #[] ∧ t'.dummies = #[] ∧ t'.led = t.led := by
  refine ⟨{ mask := SetTable.sizeAbove n - 1, place := #[], dummies := #[], finger := t.finger, led := t.led, moves := t.movedTo (SetTable.sizeAbove n - 1), plain := t.plain }, ?_, rfl, rfl, rfl⟩
  have e : SetTable.layClean (SetTable.sizeAbove n - 1) #[] = some (Array.replicate (SetTable.sizeAbove n - 1 + 1) none) := rfl
  have l := live_none (SetTable.sizeAbove n - 1)
  unfold SetTable.relaid SetTable.laid
  rw [e]
  show some (({ mask := SetTable.sizeAbove n - 1, place := (((List.range (SetTable.sizeAbove n - 1 + 1)).filterMap (fun j => ((Array.replicate (SetTable.sizeAbove n - 1 + 1) (none : Option Nat)).getD j none).map (j, ·))).map Prod.fst).toArray, dummies := #[], finger := t.finger, led := t.led, moves := t.movedTo (SetTable.sizeAbove n - 1), plain := t.plain } : SetTable), (((List.range (SetTable.sizeAbove n - 1 + 1)).filterMap (fun j => ((Array.replicate (SetTable.sizeAbove n - 1 + 1) (none : Option Nat)).getD j none).map (j, ·))).map Prod.snd).toArray) = _
  rw [l]
  rfl
section
variable {P : Program} {w : World} {A : Around} {E : Value → Shared → Prop} {s : Shared}
theorem room_fresh {S : Addr} {n : Nat} {Q : Unit → Shared → Prop} (hS : s.heap.get? S = some (sObj "set" (emptyD w))) (hn : n ≤ 4000)
    (h : ∀ h' D, Heap.SameBut S s.heap h' → h'.get? S = some (sObj "set" D) → Tx P w D [] → Q () { s with heap := h' }) : wpAny (model P w) A (setRoomFor S n) Q E s := by
  have hd : (sObj "set" (emptyD w)).data = .set #[] 0 (.fresh 0 0 (!w.params.followText "set-order")) := rfl
  have keep : Q () s := h s.heap (emptyD w) (Heap.SameBut.refl _ _) hS tx_empty
  unfold setRoomFor
  refine wpAny_bind (wpAny_setState_of hS hd (by rfl) ?_)
  dsimp only
  unfold SetTable.roomFor
  by_cases c : ((SetTable.fresh 0 0 (!w.params.followText "set-order")).fill + n) * 5 ≥ (SetTable.fresh 0 0 (!w.params.followText "set-order")).mask * 3
  · rw [if_pos c]
    dsimp only
    generalize hw : ((SetTable.fresh 0 0 (!w.params.followText "set-order")).place.size + n) * 2 = wanted
    have hw2 : wanted ≤ 8192 := by
      have z : (SetTable.fresh 0 0 (!w.params.followText "set-order")).place.size = 0 := rfl
      rw [z] at hw
      omega
    obtain ⟨t', e, e1, e2, e3⟩ := relaid_none (SetTable.fresh 0 0 (!w.params.followText "set-order")) wanted
    rw [setRelay_eq]
    refine wpAny_bind (wpAny_setState_of hS hd (by rfl) ?_)
    dsimp only
    refine wp_if_neg (by have z := above_le hw2; rw [sizeLine_eq]; omega) ?_
    try refine wpAny_bind (wpAny_pure ?_)
    rw [show (#[] : Array (Int × Value)).map (·.1) = (#[] : Array Int) from by simp, e]
    dsimp only
    refine wpAny_bind ?_
    refine wp_if_neg (by simp) ?_
    try refine wpAny_bind (wpAny_pure ?_)
    refine wpAny_pure ?_
    dsimp only
    refine wpAny_storeSet_of hS hd ?_ (by simp)
    have sb : Heap.SameBut S s.heap (s.heap.update S (Obj.putSet ((#[] : Array Nat).filterMap ((#[] : Array (Int × Value))[·]?)) t')) := Heap.SameBut.update ..
    refine h _ (#[], 1, t') sb (store_at hS hd) ⟨TxOk.nil ?_, ?_, ?_, List.nodup_nil⟩
    · simp [SetTable.fits, SetTable.fill, e1, e2]
    · rw [e1]; exact List.Pairwise.nil
    · rw [e3]
      show _ ∨ (!w.params.followText "set-order") = true
      cases w.params.followText "set-order" <;> simp
  · rw [if_neg c]
    exact wpAny_pure keep
theorem sub_dict_set : isSubtype (.type "dict") (.type "set") = pure false := by rw [isSubtype_type]; kernel_rfl
theorem sub_dict_frozenset : isSubtype (.type "dict") (.type "frozenset") = pure false := by rw [isSubtype_type]; kernel_rfl
/-- the keys are put in, one by one -/
theorem call_set_dict {d : Addr} {vs : List (Key × Value)} {ks : List Str} {Q : Value → Shared → Prop} (hd : s.heap.DictOf (mixKind P w) d vs) (hds : (d == sysModules) = false) (hk : vs.map (·.1) = ks.map Sum.inr) (hl : ks.length ≤ 4000)
    (h : ∀ (s' : Shared) D l, (∀ b o, s.heap.get? b = some o → s'.heap.get? b = some o) → s'.gens = s.gens → s'.os = s.os → s'.heap.get? s.heap.objs.size = some (sObj "set" D) → Tx P w D l → (∀ k, k ∈ l ↔ k ∈ ks) → l.length = ks.length → Q (.ref s.heap.objs.size) s') :
    wpAny (model P w) A (call (.type "set") [.ref d]) Q E s := by
  refine set_by_init fun R hR => ?_
  obtain ⟨o, es, ep, ho, hc, hdat, hkeys, hpairs, hnd⟩ := id hd
  have hne : d ≠ s.heap.objs.size := Nat.ne_of_lt (Heap.lt_size ho)
  have hS : (s.heap.push (sObj "set" (emptyD w))).get? s.heap.objs.size = some (sObj "set" (emptyD w)) := Heap.get?_push_size _ rfl
  have ho1 : (s.heap.push (sObj "set" (emptyD w))).get? d = some o := Heap.get?_push_of_some _ ho
  have hold : ∀ b o, s.heap.get? b = some o → b ≠ s.heap.objs.size ∧ (s.heap.push (sObj "set" (emptyD w))).get? b = some o := fun b o e => ⟨Nat.ne_of_lt (Heap.lt_size e), Heap.get?_push_of_some _ e⟩
  have hty : Shared.TypeIs { s with heap := s.heap.push (sObj "set" (emptyD w)) } (.ref d) "dict" := ⟨o, ho1, hc.1⟩
  generalize s.heap.push (sObj "set" (emptyD w)) = h1 at hS ho1 hold hty ⊢
  have t1 := sub_dict_set
  have t2 := sub_dict_frozenset
  unfold Builtin.«set.__init__» noKeywords Builtin.Frozenset.updateFrom
  wp_walk
  rw [hdat]
  refine wpAny_pure ?_
  refine wpAny_bind (wpAny_dictEntries ho1 hdat ?_)
  have hlen : es.size = ks.length := by
    have e1 := hpairs.length
    have e2 := congrArg List.length hk
    rw [List.length_map, List.length_map] at e2
    rw [Array.length_toList] at e1
    omega
  have hksn : ks.Nodup := by
    have z := hnd
    rw [hk] at z
    exact (List.pairwise_map.mp z).imp fun {a b} q e => q (by rw [e])
  refine wpAny_bind (room_fresh hS (by rw [hlen]; exact hl) fun h2 D sb hS2 F => ?_)
  have ho2 : h2.get? d = some o := (sb.2 d hne).trans ho1
  refine wpAny_bind (wpAny_dictEntries ho2 hdat ?_)
  refine wpAny_bind ?_
  refine SeqAt.wpAny_forIn_span 0 es.size _ (fun i _ s' => ∃ h' D l, s' = { s with heap := h' } ∧ h'.get? s.heap.objs.size = some (sObj "set" D) ∧ Tx P w D l ∧ l.length = i ∧ (∀ k, k ∈ l ↔ k ∈ ks.take i) ∧ (∀ b o', b ≠ s.heap.objs.size → h1.get? b = some o' → h'.get? b = some o'))
    _ ?_ ?_ _ ⟨h2, D, [], rfl, hS2, F, rfl, (fun k => by simp), fun b o' n e => (sb.2 b n).trans e⟩
  · rintro i _ s' _ hi ⟨h', D1, l, rfl, g1, g2, g3, g4, g5⟩
    have ho3 := g5 d o hne ho1
    refine wpAny_bind (wpAny_dictEntries ho3 hdat ?_)
    rw [Array.getElem?_eq_getElem hi]
    have hik : i < ks.length := by omega
    obtain ⟨kv, hkv⟩ : ∃ kv, vs[i]? = some kv := by
      have e2 := congrArg List.length hk
      rw [List.length_map, List.length_map] at e2
      exact ⟨vs[i]'(by omega), List.getElem?_eq_getElem _⟩
    obtain ⟨kk, vv⟩ := kv
    obtain ⟨hkey, hval⟩ := hpairs.get? (e := es[i]) (by simp [hi]) hkv
    obtain ⟨k', hkey', hhash⟩ := hkeys es[i] (Array.getElem_mem hi)
    obtain rfl : k' = kk := (mixKind P w).inj _ _ _ hkey' hkey
    have ekk : k' = Sum.inr ks[i] := by
      have z := congrArg (fun l => l[i]?) hk
      simp only [List.getElem?_map, hkv, Option.map_some, List.getElem?_eq_getElem hik] at z
      exact Option.some.inj z
    subst ekk
    obtain ⟨tk, ev⟩ := Value.isStrOf_shape (x := ks[i]) (v := es[i].key) hkey
    show wpAny _ _ (holding [es[i].key] (setAddHashed s.heap.objs.size es[i].key es[i].hash) >>= _) _ _ _
    rw [hhash, ev]
    have hni : ks[i] ∉ l := fun z => by
      obtain ⟨j, hj, e⟩ := List.getElem_of_mem ((g4 _).mp z)
      rw [List.length_take] at hj
      rw [List.getElem_take] at e
      exact List.pairwise_iff_getElem.mp hksn j i (by omega) hik (by omega) e
    refine wpAny_bind (wpAny_holding (Froz.add_x (s := { s with heap := h' }) g1 g2.ok hni (by rw [g3]; exact Nat.lt_of_le_of_lt (show i + 1 ≤ 4000 by omega) (by decide)) ?_))
    have hS3 : (h'.update s.heap.objs.size (fun _ => sObj "set" (addTx (hashStr w ks[i]) (.str ks[i] tk) D1))).get? s.heap.objs.size = some (sObj "set" (addTx (hashStr w ks[i]) (.str ks[i] tk) D1)) := Froz.get_upd _ g1 rfl
    have other : ∀ b o', b ≠ s.heap.objs.size → h'.get? b = some o' → (h'.update s.heap.objs.size (fun _ => sObj "set" (addTx (hashStr w ks[i]) (.str ks[i] tk) D1))).get? b = some o' := fun b o' n e => (Heap.get?_update_other _ _ (Ne.symm n)).trans e
    refine wpAny_bind (wpAny_dictEpoch (other d o hne ho3) hdat ?_)
    rw [if_neg (by simp)]
    refine wpAny_pure ⟨_, _, ks[i] :: l, rfl, hS3, g2.add tk hni, (by rw [List.length_cons, g3]), fun k => ?_, fun b o' n e => other b o' n (g5 b o' n e)⟩
    rw [List.take_add_one, List.getElem?_eq_getElem hik, List.mem_append, List.mem_cons, g4 k]
    simp [Or.comm]
  · rintro _ s' ⟨h', D1, l, rfl, g1, g2, g3, g4, g5⟩
    have em : max 0 es.size = ks.length := by rw [hlen]; exact Nat.max_eq_right (Nat.zero_le _)
    rw [em] at g3 g4
    rw [List.take_length] at g4
    exact wpAny_pure (wpAny_pure (hR _ (h { s with heap := h' } D1 l (fun b o' e => g5 b o' (hold b o' e).1 (hold b o' e).2) rfl rfl g1 g2 g4 g3)))
end
end Vs

set_option Elab.async false
set_option linter.all false
set_option maxRecDepth 100000
set_option maxHeartbeats 4000000
namespace Vm
open PySem PySem.Spec PyProof.Rows L2 L2.Vx
/-! ### words as texts; dicts whose keys are words -/
def mkS (l : Wd) : Str := ⟨l.toArray⟩
theorem mkS_cps (l : Wd) : (mkS l).cps.toList = l := by simp [mkS]
theorem mkS_of (z : Str) : mkS z.cps.toList = z := by obtain ⟨⟨l⟩⟩ := z; rfl
theorem mkS_inj {a b : Wd} (h : mkS a = mkS b) : a = b := by rw [← mkS_cps a, h, mkS_cps]
theorem mkS_length (l : Wd) : (mkS l).length = l.length := by
  show l.toArray.size = _
  simp
abbrev kS (p : Wd) : Key := Sum.inr (mkS p)
theorem kS_iff {a b : Wd} : kS a = kS b ↔ a = b := ⟨fun h => mkS_inj (Sum.inr.inj h), fun h => by rw [h]⟩
def entK (f : Wd → V) (ks : List Wd) : List (Key × V) := ks.map fun k => (kS k, f k)
theorem entK_length (f : Wd → V) (ks : List Wd) : (entK f ks).length = ks.length := List.length_map _
theorem entK_keys (f : Wd → V) (ks : List Wd) : (entK f ks).map (·.1) = (ks.map mkS).map Sum.inr := by
  unfold entK
  rw [List.map_map, List.map_map]
  rfl
theorem entK_congr {f g : Wd → V} {ks : List Wd} (h : ∀ p ∈ ks, f p = g p) : entK f ks = entK g ks := List.map_congr_left fun p hp => by rw [h p hp]
theorem valV_ent (f : Wd → V) (p : Wd) : ∀ ks : List Wd, valV (entK f ks) (kS p) = if p ∈ ks then some (f p) else none
  | [] => by simp [entK, valV_nil]
  | q :: r => by
    show valV ((kS q, f q) :: entK f r) (kS p) = _
    by_cases e : q = p
    · subst e
      rw [valV_pos (p := (kS q, f q)) rfl, if_pos (List.mem_cons_self ..)]
    · rw [valV_neg (p := (kS q, f q)) (fun z => e (kS_iff.mp z)), valV_ent f p r]
      have e' : ¬ p = q := fun z => e z.symm
      simp only [List.mem_cons, e', false_or]
theorem get_ent {H : Hp} {d : Addr} {f : Wd → V} {ks : List Wd} {p : Wd} (e : H d = some (.dK (entK f ks))) (h : p ∈ ks) : DGet H d (.str (mkS p)) (some (f p)) := by
  have z := DGet.k (k := kS p) e
  rw [valV_ent, if_pos h] at z
  exact z
theorem getD_ent {f : Wd → V} {ks : List Wd} {p : Wd} {v : V} (h : p ∉ ks → f p = v) : (valV (entK f ks) (kS p)).getD v = f p := by
  rw [valV_ent]
  split
  · rfl
  · rename_i c
    exact (h c).symm
/-- f, but v at p -/
def at' (f : Wd → V) (p : Wd) (v : V) : Wd → V := fun q => if q = p then v else f q
/-- p behind the others, if it is new -/
def more (ks : List Wd) (p : Wd) : List Wd := if p ∈ ks then ks else ks ++ [p]
theorem putK_ent (f : Wd → V) (p : Wd) (v : V) (ks : List Wd) : putK (entK f ks) (kS p) v = entK (at' f p v) (more ks p) := by
  have e := valV_ent f p ks
  unfold more
  by_cases h : p ∈ ks
  · rw [if_pos h]
    rw [if_pos h] at e
    unfold putK
    rw [valV_any, e, if_pos (show (some (f p)).isSome = true from rfl)]
    unfold entK
    rw [List.map_map]
    refine List.map_congr_left fun q _ => ?_
    show (if kS q = kS p then (kS q, v) else (kS q, f q)) = (kS q, if q = p then v else f q)
    by_cases c : q = p
    · rw [if_pos (kS_iff.mpr c), if_pos c]
    · rw [if_neg (fun z => c (kS_iff.mp z)), if_neg c]
  · rw [if_neg h]
    rw [if_neg h] at e
    rw [putK_new _ e]
    unfold entK
    rw [List.map_append]
    refine congr (congrArg _ (List.map_congr_left fun q hq => ?_)) ?_
    · have c : ¬ q = p := fun z => h (z ▸ hq)
      show (kS q, f q) = (kS q, if q = p then v else f q)
      rw [if_neg c]
    · show [(kS p, v)] = [(kS p, if p = p then v else f p)]
      rw [if_pos rfl]
theorem more_nodup {ks : List Wd} (h : ks.Nodup) (p : Wd) : (more ks p).Nodup := by
  unfold more
  split
  · exact h
  · rename_i c
    refine List.nodup_append.mpr ⟨h, List.nodup_cons.mpr ⟨by simp, List.nodup_nil⟩, fun a ha b hb e => ?_⟩
    rw [List.mem_singleton.mp hb] at e
    exact c (e ▸ ha)
theorem mem_more {ks : List Wd} {p q : Wd} : q ∈ more ks p ↔ q ∈ ks ∨ q = p := by
  unfold more
  split
  · rename_i c
    exact ⟨.inl, fun h => h.elim id fun e => e ▸ c⟩
  · simp
theorem more_length (ks : List Wd) (p : Wd) : (more ks p).length ≤ ks.length + 1 := by
  unfold more
  split <;> simp
/-- the sorted texts of such keys -/
theorem sorted_is {ks : List Wd} {ys : List Str} (p : ys.Perm (ks.map mkS)) (u : SrtO.UpS ys) (d : ks.Nodup) : ys = (asc ks).map mkS := by
  have p2 : (ys.map fun y => y.cps.toList).Perm ks := by
    have z := p.map fun y : Str => y.cps.toList
    rw [List.map_map] at z
    have e : (fun y : Str => y.cps.toList) ∘ mkS = id := funext mkS_cps
    rw [e, List.map_id] at z
    exact z
  have u2 : (ys.map fun y => y.cps.toList).Pairwise (fun x y => ¬ y < x) := List.pairwise_map.mpr u
  have u3 := up_of_le u2 (p2.nodup_iff.mpr d)
  have e := up_uniq u3 (up_asc ks) fun x => by rw [mem_asc]; exact p2.mem_iff
  rw [← e, List.map_map]
  have e2 : mkS ∘ (fun y : Str => y.cps.toList) = id := funext mkS_of
  rw [e2, List.map_id]
/-! ### pairs of a word and a number, as data -/
abbrev pairD (f : Wd → Int) (p : Wd) : PyData := .tuple [.str (mkS p), .int (f p)]
def pairsD (f : Wd → Int) (l : List Wd) : PyData := .tuple (l.map (pairD f))
theorem dtAll_snoc {H : Hp} {S : Addr → Prop} {D t : Addr} {vs ws : List V} {ds : List PyData} {d : PyData} {o : HO} (h : DtAll H S vs ds) (hS : ∀ a, S a → a ≠ D) (ht : H t = none) (st : S t) (e : Dt (upd (upd H t (.tup ws)) D o) S (.ref t) d) :
    DtAll (upd (upd H t (.tup ws)) D o) S (vs ++ [.ref t]) (ds ++ [d]) := by
  refine DtAll.append (h.mono (fun a u sa hu => ?_) fun _ _ s _ => s) (.cons e .nil)
  rw [upd_ne (hS a sa), upd_ne (ne_of_none hu ht)]
  exact hu
end Vm

set_option Elab.async false
set_option linter.all false
set_option maxRecDepth 100000
set_option maxHeartbeats 4000000
namespace Vs
open PySem PySem.Spec PyProof.Rows L2 SrtO Vm
open PySem.Froz (SD sObj addTx tailTx sing TxOk)
section
variable {P : Program} {w : World} {A : Around} {E : Value → Shared → Prop} {s : Shared}
theorem mkS_nodup {ks : List Wd} (h : ks.Nodup) : (ks.map mkS).Nodup := List.Pairwise.map mkS (fun a b n e => n (mkS_inj e)) h
/-- sorted(set of texts), any number of them -/
theorem sorted_set_any {a : Addr} {D : SD} {l : List Str} {Q : Value → Shared → Prop} (ho : s.heap.get? a = some (sObj "set" D)) (F : Tx P w D l) (hh : A.handled = none) (hl : l.length < scanBound)
    (h : ∀ (s' : Shared) p (out : List Value) (c : Nat) (ys : List Str), (∀ b o, s.heap.get? b = some o → s'.heap.get? b = some o) → s'.gens = s.gens → s'.os = s.os → s.heap.objs.size ≤ p →
      s'.heap.get? p = some (seqObj "list" out.toArray c) → StrsAre out ys → ys.Perm l → UpS ys → Q (.ref p) s') :
    wpAny (model P w) A (call (.builtin "sorted") [.ref a]) Q E s := by
  obtain ⟨v1, v2⟩ := F.vals
  have hsz : D.1.size = l.length := F.ok.sz
  refine Calls.call_function_entry kind_sorted plain_sorted entry_sorted (args_sorted1 _) ?_
  unfold Builtin.«sorted»
  refine wpAny_bind (m := checkCount "sorted" 1 1 _) (wpAny_pure ?_)
  refine wpAny_bind (collect_set (A := A.in1) (es := D.1) (ep := D.2.1) (t := D.2.2) hh ⟨_, ho, rfl, rfl⟩ F.ok.fit (by rw [hsz]; exact hl) F.ris F.led fun s1 vs k1 z1 g1 o1 pm => ?_)
  have len : vs.length = l.length := by rw [pm.length_eq, List.length_map, Array.length_toList, hsz]
  have hS : StrsAre vs (vs.map strOf) := strs_of vs fun v hv => by
    obtain ⟨e, he, rfl⟩ := List.mem_map.mp (pm.mem_iff.mp hv)
    obtain ⟨k, tk, q, _⟩ := v1 e he
    exact ⟨k, tk, q⟩
  have pl : (vs.map strOf).Perm l := (pm.map strOf).trans (by rw [List.map_map]; exact v2)
  have hz : vs.length ≤ sizeLine := by
    rw [len, sizeLine_eq]
    exact Nat.le_trans (Nat.le_of_lt hl) (by decide)
  refine sort_collected hS hz fun h' p out c ys k2 hp hc y1 y2 y3 => ?_
  exact wpAny_pure ⟨_, rfl, h _ p out c ys (fun b u e => k2 b u (k1 b u e)) g1 o1 (Nat.le_trans z1 hp) hc y1 (y2.trans pl) y3⟩
end
section
variable {X : Cx}
/-- set(d) -/
theorem cr_setDict (hc : X.calm = true) : CallR X (.type "set") (fun xs H Q => ∃ (a : Addr) (f : Wd → V) (ks : List Wd), xs = [.ref a] ∧ Rd H a (.dK (entK f ks)) ∧ ks.Nodup ∧ ks.length ≤ 4000 ∧ ∀ p l, H p = none → l.Perm (ks.map mkS) → Q (.ref p) (upd H p (SetTxO X.prog X.w p l))) := by
  intro pins s σ H vs us Q I r h
  obtain ⟨a, f, ks, rfl, ha, nd, hl, q⟩ := h
  rw [Vals.ref1 r]
  obtain ⟨z, lo, ws, rel, dd⟩ := dk_rd I.hok ha
  have hkeys : ws.map (·.1) = (ks.map mkS).map Sum.inr := rel.keys.symm.trans (entK_keys f ks)
  refine call_set_dict dd lo hkeys (by rw [List.length_map]; exact hl) fun s' D l k g o hS F hm hn => ?_
  exact laid_new I k g o (Nat.le_refl _) (setTxO_new ⟨D, hS, F⟩) fun hn' => q _ l hn' ((perm_same (ks.map mkS) l (mkS_nodup nd) (fun k hk => (hm k).mpr hk) (Nat.le_of_eq hn)))
/-- sorted(set of texts) -/
theorem cr_sortedTxK (hc : X.calm = true) : CallR X (.builtin "sorted") (fun xs H Q => ∃ (a : Addr) (l : List Str) (ks : List Wd), xs = [.ref a] ∧ H a = some (SetTxO X.prog X.w a l) ∧ l.Perm (ks.map mkS) ∧ ks.Nodup ∧ ks.length ≤ 4000 ∧
    ∀ p, H p = none → Q (.ref p) (upd H p (.lst (((asc ks).map mkS).map .str)))) := by
  intro pins s σ H vs us Q I r h
  obtain ⟨a, l, ks, rfl, ha, pl, nd, hl, q⟩ := h
  rw [Vals.ref1 r]
  obtain ⟨D, hS, F⟩ : SetTx X.prog X.w s.heap a l := (I.hok a _ ha).1
  have ll : l.length = ks.length := by rw [pl.length_eq, List.length_map]
  refine sorted_set_any hS F (I.ok.hd hc) (by rw [ll]; exact Nat.lt_of_le_of_lt hl (by decide)) fun s' p out c ys k g o hp hg hv pm so => ?_
  have e := sorted_is (pm.trans pl) so nd
  have len : (ys.map V.str).length ≤ sizeLine := by
    rw [List.length_map, pm.length_eq, ll, sizeLine_eq]
    omega
  have new : ObjOk X.prog X.w (upd H p (.lst (ys.map V.str))) s'.heap p (.lst (ys.map .str)) := ⟨len, out, c, vals_of_strs hv, hg⟩
  refine laid_new I k g o hp new fun hn => ?_
  rw [e]
  exact q p hn
theorem cr_setDictAt {P : Program} {w : World} (hc : X.calm = true) (eP : X.prog = P) (ew : X.w = w) : CallR X (.type "set") (fun xs H Q => ∃ (a : Addr) (f : Wd → V) (ks : List Wd), xs = [.ref a] ∧ Rd H a (.dK (entK f ks)) ∧ ks.Nodup ∧ ks.length ≤ 4000 ∧ ∀ p l, H p = none → l.Perm (ks.map mkS) → Q (.ref p) (upd H p (SetTxO P w p l))) := by
  subst eP
  subst ew
  exact cr_setDict hc
theorem cr_sortedTxAt {P : Program} {w : World} (hc : X.calm = true) (eP : X.prog = P) (ew : X.w = w) : CallR X (.builtin "sorted") (fun xs H Q => ∃ (a : Addr) (l : List Str) (ks : List Wd), xs = [.ref a] ∧ H a = some (SetTxO P w a l) ∧ l.Perm (ks.map mkS) ∧ ks.Nodup ∧ ks.length ≤ 4000 ∧
    ∀ p, H p = none → Q (.ref p) (upd H p (.lst (((asc ks).map mkS).map .str)))) := by
  subst eP
  subst ew
  exact cr_sortedTxK hc
/-- sorted(d), the keys texts -/
theorem cr_sortedDK (hc : X.calm = true) : CallR X (.builtin "sorted") (fun xs H Q => ∃ (a : Addr) (f : Wd → V) (ks : List Wd), xs = [.ref a] ∧ Rd H a (.dK (entK f ks)) ∧ ks.Nodup ∧ ks.length ≤ 4000 ∧
    ∀ p, H p = none → Q (.ref p) (upd H p (.lst (((asc ks).map mkS).map .str)))) := by
  intro pins s σ H xs us Q I r q
  obtain ⟨a, f, kl, ex, hd, nd, hl4, q⟩ := q
  subst ex
  rw [Vals.ref1 r]
  obtain ⟨z, lo, vs, rel, dd⟩ := dk_rd I.hok hd
  obtain ⟨ep, hat⟩ := dd.dictAt
  generalize hkk : kl.map mkS = ks
  have hkeys : vs.map (·.1) = ks.map Sum.inr := by rw [← hkk]; exact rel.keys.symm.trans (entK_keys f kl)
  have hl : vs.length = ks.length := by
    have e := congrArg List.length hkeys
    rw [List.length_map, List.length_map] at e
    exact e
  have hl5 : ks.length ≤ 4000 := by rw [← hkk, List.length_map]; exact hl4
  have h16 : vs.length ≤ sizeLine := by rw [hl, sizeLine_eq]; omega
  refine Calls.call_function_entry PyProof.Rows.kind_sorted PyProof.Rows.plain_sorted PyProof.Rows.entry_sorted (PyProof.Rows.args_sorted1 _) ?_
  unfold Builtin.«sorted»
  refine wpAny_bind (m := checkCount "sorted" 1 1 _) (wpAny_pure ?_)
  refine wpAny_bind (PySem.W.kdu_collect (A := X.A.in1) (PySem.W.kdl_dict (knd := mixKind X.prog X.w) (kvs := vs) (ep := ep) lo) (I.ok.hd hc) hat h16 fun h' tk acc hk hacc => ?_)
  have hal : acc.toList.length = ks.length := by rw [Array.length_toList, hacc.1, hl]
  have hS : StrsAre acc.toList ks := strs_at hal fun j v e => by
    obtain ⟨k, x, e1, e2⟩ := hacc.2 j v (by rw [← Array.getElem?_toList]; exact e)
    have e3 : (vs.map (·.1))[j]? = some k := by rw [List.getElem?_map, e1]; all_goals rfl
    rw [hkeys, List.getElem?_map] at e3
    cases e4 : ks[j]? with
    | none => rw [e4] at e3; cases e3
    | some y =>
      rw [e4] at e3
      have e5 : Sum.inr y = k := Option.some.inj e3
      subst e5
      obtain ⟨t, ev⟩ := Value.isStrOf_shape (x := y) (v := v) e2
      exact ⟨y, t, rfl, ev⟩
  have I1 : Inv X pins σ H { s with heap := h', toks := tk } := I.kept hk
  have hz : acc.toList.length ≤ sizeLine := by rw [hal, sizeLine_eq]; omega
  refine sort_collected (s1 := { s with heap := h', toks := tk }) hS hz fun h2 p out c ys k2 hp hc2 y1 y2 y3 => ?_
  have e := sorted_is (by rw [hkk]; exact y2) y3 nd
  have len : (ys.map V.str).length ≤ sizeLine := by
    rw [List.length_map, y2.length_eq, sizeLine_eq]
    omega
  have new : ObjOk X.prog X.w (upd H p (.lst (ys.map V.str))) h2 p (.lst (ys.map .str)) := ⟨len, out, c, vals_of_strs y1, hc2⟩
  refine wpAny_pure ⟨_, rfl, laid_new (s' := { s with heap := h2, toks := tk }) I1 k2 rfl rfl hp new fun hn => ?_⟩
  rw [e]
  exact q p hn
end
end Vs

set_option Elab.async false
set_option linter.all false
set_option maxRecDepth 100000
set_option maxHeartbeats 4000000
namespace Vm
open PySem PySem.Spec PyProof.Rows L2 L2.Vx
/-! ### texts: joined signs, so many times, slices, find -/
theorem glue0 : ∀ (l : List Str) (a : Array Nat), (l.foldl (fun acc p => acc ++ (#[] : Array Nat) ++ p.cps) a).toList = a.toList ++ l.flatMap (fun p => p.cps.toList)
  | [], a => by simp
  | p :: r, a => by
    rw [List.foldl_cons, glue0 r]
    simp
theorem join_cps (ys : List Str) : (PySem.Txt.join "" ys).cps.toList = ys.flatMap fun y => y.cps.toList := by
  show ((ys.drop 1).foldl (fun acc p => acc ++ (#[] : Array Nat) ++ p.cps) (ys.headD Str.empty).cps).toList = _
  rw [glue0]
  cases ys with
  | nil => rfl
  | cons y r => simp
theorem join_signs (us : Wd) : PySem.Txt.join "" (us.map fun c => mkS [c]) = mkS us := by
  rw [← mkS_of (PySem.Txt.join "" (us.map fun c => mkS [c])), join_cps]
  congr 1
  induction us with
  | nil => rfl
  | cons c r ih =>
    rw [List.map_cons, List.flatMap_cons, ih]
    rfl
theorem sum_signs : ∀ us : Wd, ((us.map fun c => mkS [c]).map (·.length)).sum = us.length
  | [] => rfl
  | c :: r => by
    rw [List.map_cons, List.map_cons, List.sum_cons, sum_signs r, List.length_cons]
    show 1 + r.length = _
    omega
theorem fold_rep (x : Array Nat) : ∀ (n : Nat) (a : Array Nat), ((List.replicate n x).foldl (· ++ ·) a).toList = a.toList ++ (List.replicate n x.toList).flatten
  | 0, a => by simp
  | n + 1, a => by
    rw [List.replicate_succ, List.foldl_cons, fold_rep x n, List.replicate_succ, List.flatten_cons]
    simp
/-- a word so many times -/
def times (n : Nat) (z : Wd) : Wd := (List.replicate n z).flatten
theorem times_length (n : Nat) (z : Wd) : (times n z).length = n * z.length := by
  unfold times
  rw [List.length_flatten, List.map_replicate, List.sum_replicate_nat]
theorem times_mem {n : Nat} {z : Wd} {c : Nat} (h : c ∈ times n z) : c ∈ z := by
  obtain ⟨l, hl, hc⟩ := List.mem_flatten.mp h
  rw [List.eq_of_mem_replicate hl] at hc
  exact hc
theorem mul_times (z : Wd) (n : Nat) : PySem.Txt.mul (mkS z) (n : Int) = mkS (times n z) := by
  unfold PySem.Txt.mul
  by_cases h0 : (n : Int) < 1
  · rw [if_pos h0]
    obtain rfl : n = 0 := by omega
    rfl
  · rw [if_neg h0]
    by_cases h1 : ((n : Int) == 1 || (mkS z).length == 0) = true
    · rw [if_pos h1]
      rcases Bool.or_eq_true_iff.mp h1 with e | e
      · obtain rfl : n = 1 := by
          have := eq_of_beq e
          omega
        simp [times]
      · have e2 : z.length = 0 := by
          have := eq_of_beq e
          rw [mkS_length] at this
          exact this
        obtain rfl : z = [] := List.length_eq_zero_iff.mp e2
        have e3 : times n [] = [] := List.length_eq_zero_iff.mp (by rw [times_length]; simp)
        rw [e3]
    · rw [if_neg h1]
      have e : (n : Int).toNat = n := by omega
      rw [e, ← mkS_of (⟨_⟩ : Str)]
      congr 1
      show ((List.replicate n (mkS z).cps).foldl (· ++ ·) #[]).toList = _
      rw [fold_rep, mkS_cps]
      rfl
theorem mulOk_of {z : Wd} {n : Nat} (h1 : z.length ≤ 4000) (h2 : n ≤ 4000) : MulOk (mkS z) (n : Int) := by
  unfold MulOk
  rw [mkS_length]
  have e : (n : Int).toNat = n := by omega
  rw [e]
  refine ⟨?_, fun h3 _ h5 => ?_, fun _ _ => ?_⟩
  · have a1 : ¬ (n : Int) < -(2 ^ 63 : Int) := by omega
    have a2 : ¬ (n : Int) ≥ 2 ^ 63 := by omega
    rw [decide_eq_false a1, decide_eq_false a2]
    rfl
  · have : (4000 : Int) ≤ (2 ^ 63 - 1) / n := by
      rw [Int.le_ediv_iff_mul_le (by omega)]
      omega
    omega
  · have : z.length * n ≤ 4000 * 4000 := Nat.mul_le_mul h1 h2
    unfold Builtin.Str.tooLong
    rw [decide_eq_false]
    rw [sizeLine_eq]
    omega
theorem cut_head {z : Wd} (n : Nat) : cutS (mkS z) none (some (n : Int)) = mkS (z.take n) := by
  unfold cutS
  rw [mkS_length, mkS_cps]
  have e1 : HT.sIx z.length 0 none = 0 := rfl
  have e2 : HT.sIx z.length z.length (some (n : Int)) = min n z.length := HT.sIx_nat _ _ n
  rw [e1, e2, List.drop_zero, Nat.sub_zero]
  show mkS (z.take (min n z.length)) = _
  congr 1
  rw [List.take_eq_take_iff]
  omega
/-- find from a place on -/
theorem at_win {k : Nat} {z p : Wd} (hp : p.length = k) (i : Nat) : StrLaws.At (mkS z) (mkS p) (mkS z).length i ↔ i < z.length + 1 - k ∧ win k z i = p := by
  unfold StrLaws.At
  rw [StrLaws.subAt_eq, mkS_length, mkS_length, mkS_cps, mkS_cps, hp, beq_iff_eq]
  constructor
  · rintro ⟨h1, h2⟩
    exact ⟨by omega, h2⟩
  · rintro ⟨h1, h2⟩
    exact ⟨by omega, h2⟩
theorem find3_win {k j : Nat} {z p : Wd} (hp : p.length = k) (hj : j ≤ z.length) :
    (PySem.Txt.find3 (mkS z) (mkS p) (j : Int) = -1 ∧ ∀ i, j ≤ i → i < z.length + 1 - k → win k z i ≠ p) ∨
    ∃ i : Nat, PySem.Txt.find3 (mkS z) (mkS p) (j : Int) = (i : Int) ∧ j ≤ i ∧ i < z.length + 1 - k ∧ win k z i = p ∧ ∀ i', j ≤ i' → i' < i → i' < z.length + 1 - k → win k z i' ≠ p := by
  have ef : fromIndex (mkS z).length (j : Int) = j := by
    rw [mkS_length]
    simp [fromIndex]
    try omega
  unfold PySem.Txt.find3
  rw [ef]
  rcases StrLaws.occ_head_from (mkS z) (mkS p) j 1 (Nat.le_refl 1) with ⟨h0, hn⟩ | ⟨i, r, h0, hlo, hk, hn⟩
  · rw [h0]
    exact .inl ⟨rfl, fun i h1 h2 e => hn i h1 ((at_win hp i).mpr ⟨h2, e⟩)⟩
  · rw [h0]
    obtain ⟨h2, e⟩ := (at_win hp i).mp hk
    exact .inr ⟨i, rfl, hlo, h2, e, fun i' h3 h4 h5 e' => hn i' h3 h4 ((at_win hp i').mpr ⟨h5, e'⟩)⟩
theorem find_win {k : Nat} {z p : Wd} (hp : p.length = k) :
    (PySem.Txt.find (mkS z) (mkS p) = -1 ∧ ∀ i, 0 ≤ i → i < z.length + 1 - k → win k z i ≠ p) ∨
    ∃ i : Nat, PySem.Txt.find (mkS z) (mkS p) = (i : Int) ∧ 0 ≤ i ∧ i < z.length + 1 - k ∧ win k z i = p ∧ ∀ i', 0 ≤ i' → i' < i → i' < z.length + 1 - k → win k z i' ≠ p := by
  rw [find_is_find3]
  exact find3_win (j := 0) hp (Nat.zero_le _)
/-- what the search has found so far -/
def Seen (k : Nat) (z p : Wd) (found at_ : Int) : Prop := (at_ = -1 ∧ found = (often k z p : Nat)) ∨ ∃ i : Nat, at_ = (i : Int) ∧ i < z.length + 1 - k ∧ win k z i = p ∧ found = (upto k z p i : Nat)
theorem seen_start {k : Nat} {z p : Wd} (hp : p.length = k) : Seen k z p 0 (PySem.Txt.find (mkS z) (mkS p)) := by
  have e0 : upto k z p 0 = 0 := rfl
  rcases find_win (z := z) hp with ⟨h, hn⟩ | ⟨i, h, _, h1, h2, h3⟩
  · refine .inl ⟨h, ?_⟩
    have e := upto_none (Nat.zero_le (z.length + 1 - k)) fun i a b c => hn i a c
    rw [upto_all (Nat.le_refl _), e0] at e
    rw [e]
    rfl
  · refine .inr ⟨i, h, h1, h2, ?_⟩
    rw [upto_none (Nat.zero_le i) h3, e0]
    rfl
theorem seen_next {k i : Nat} {z p : Wd} (hp : p.length = k) (hk : 1 ≤ k) (h1 : i < z.length + 1 - k) (h2 : win k z i = p) : Seen k z p ((upto k z p i : Nat) + 1) (PySem.Txt.find3 (mkS z) (mkS p) ((i : Int) + 1)) := by
  have e0 := upto_hit h1 h2
  have ej : ((i : Int) + 1) = ((i + 1 : Nat) : Int) := by omega
  rw [ej]
  rcases find3_win (z := z) (j := i + 1) hp (by omega) with ⟨h, hn⟩ | ⟨j, h, h0, h3, h4, h5⟩
  · refine .inl ⟨h, ?_⟩
    have e := upto_none (k := k) (z := z) (p := p) (a := i + 1) (b := z.length + 1 - k) (by omega) fun i' a b c => hn i' a c
    rw [upto_all (Nat.le_refl _), e0] at e
    rw [e]
    omega
  · refine .inr ⟨j, h, h3, h4, ?_⟩
    rw [upto_none h0 h5, e0]
    omega
end Vm

set_option Elab.async false
set_option linter.all false
set_option maxRecDepth 100000
set_option maxHeartbeats 4000000
namespace Vf
open PySem PySem.Spec PyProof.Rows L2 L2.Vx Vs
/-! ### calls by keyword alone; a text so many times -/
section
variable {X : Cx} {CX : CXT} {k : Nat} {f : Addr} {fd : FuncData} {ps ks : List Str} {sp : Sp} {E : XK} {x : Str} {p pos : Pos} {kws : List Keyword} {tk : TA} {g : List Value → List Value → List Value} {gV : List V → List V → List V}
def tCallK0 (sp : Sp) (gV : List V → List V → List V) (E : XK) (tk : TA) : TE := fun σ H Q => tk σ H fun zs H2 => sp (gV [] zs) H2 Q E
theorem pe_callK0 (F : FnOk X.prog X.w X.K X.mg X.base CX k f fd ps sp) (hr : Room k X.A) (hm : X.mg x = some (.ref f)) (hk : PySem.W.keepIn X.K (.ref f) = true) (hb : KBinds X.K fd ps ks g gV) (hx : Passes CX X E) (hkw : PK X kws tk)
    (hg : Gl X x := by rfl) (hall : (backToKw pos (keywordEach kws X.env)).all (·.1.isSome) = true := by rfl) (hks : (backToKw pos (keywordEach kws X.env)).filterMap (·.1) = ks := by rfl) (hdb : (x == ("__debug__" : Str)) = false := by decide)
    (hpl : ((backTo pos (starEach [] X.env)).any (·.1) || (backToKw pos (keywordEach kws X.env)).any (·.1.isNone)) = false := by rfl) : PE X (.Call (.Name x p) [] kws pos) (tCallK0 sp gV E tk) := by
  refine ⟨fun pins s σ H Q I h => ?_⟩
  refine wpAny_Call_Name_kw (ld_glob I hg hm ?_ hdb)
  refine PySem.W.callWith_KW0 (h₀ := X.base) I.ok.mod.kin hk hall (thn (hkw.run pos pins s σ H _ I h) fun ws s2 ⟨zs, H2, I2, rz, q2⟩ => ⟨I2.kIn, ?_⟩) hpl
  rw [hks]
  exact run_fnk F hr hb hx I2 .nil rz q2
theorem op_mul_str : OpR X (binaryOp .Mult) (fun x y H Q => ∃ a n, x = .str a ∧ y = .int n ∧ MulOk a n ∧ Q (.str (PySem.Txt.mul a n)) H) := by
  intro pins s σ H x y v u Q I rx ry h
  obtain ⟨a, n, rfl, rfl, ok, q⟩ := h
  obtain ⟨t, rfl⟩ := rx
  obtain ⟨t', rfl⟩ := ry
  exact SB.mul ok fun t' k => ⟨.str _, H, I.tok _, ⟨_, rfl⟩, q⟩
end
/-- by name, the last one first -/
def gRev {α : Type} : List α → List α → List α
  | [], ws => ws.reverse
  | _ :: _, _ => []
theorem vals_rev {vs : List V} {us : List Value} (r : Vals vs us) : Vals vs.reverse us.reverse := by
  induction r with
  | nil => exact .nil
  | cons h t ih =>
    rw [List.reverse_cons, List.reverse_cons]
    have app : ∀ {as : List V} {bs : List Value} {cs : List V} {ds : List Value}, Vals as bs → Vals cs ds → Vals (as ++ cs) (bs ++ ds) := by
      intro as bs cs ds a b
      induction a with
      | nil => exact b
      | cons h _ ih => exact .cons h ih
    exact app ih (.cons h .nil)
theorem gRev_vals {v1 v2 : List V} {u1 u2 : List Value} (r1 : Vals v1 u1) (r2 : Vals v2 u2) : Vals (gRev v1 v2) (gRev u1 u2) := by
  cases r1 with
  | nil => exact vals_rev r2
  | cons _ _ => exact .nil
end Vf

set_option Elab.async false
set_option linter.all false
set_option maxRecDepth 100000
set_option maxHeartbeats 4000000
namespace Vm
open PySem PySem.Spec PyProof.Rows L2 L2.Vx
/-! ### data that can be shown, and how long that is -/
structure Fit (b e : Nat) (D : PyData) : Prop where
  sh : D.showable = true
  len : D.shown.length ≤ b
  dep : D.depth ≤ e
theorem Fit.le {b e b' e' : Nat} {D : PyData} (h : Fit b e D) (h1 : b ≤ b') (h2 : e ≤ e') : Fit b' e' D := ⟨h.sh, Nat.le_trans h.len h1, Nat.le_trans h.dep h2⟩
theorem fit_str {z : Wd} {n : Nat} (h : ∀ c ∈ z, c < 1000) (hn : z.length ≤ n) : Fit (10 * n + 2) 0 (.str (mkS z)) := by
  refine ⟨rfl, ?_, by simp [PyData.depth]⟩
  show (PySem.reprText (mkS z)).length ≤ _
  have q := StrLaws.reprText_len (mkS z) fun c hc => by
    rw [mkS_cps] at hc
    exact Nat.lt_trans (h c hc) (by decide)
  rw [mkS_length] at q
  omega
theorem fit_int {n : Int} (h0 : 0 ≤ n) (h1 : n < 10 ^ 10) : Fit 10 0 (.int n) := by
  refine ⟨?_, ?_, by simp [PyData.depth]⟩
  · show decide (n.natAbs.log2 < 1920) = true
    refine decide_eq_true ?_
    have a : n.natAbs < 2 ^ 40 := Nat.lt_of_lt_of_le (show n.natAbs < 10 ^ 10 by omega) (by decide)
    by_cases c : n.natAbs = 0
    · rw [c]; decide
    · exact Nat.lt_trans ((Nat.log2_lt c).mpr a) (by decide)
  · exact toString_length_le h0 (by decide) h1
theorem fit_all {b e : Nat} : ∀ {ds : List PyData}, (∀ x ∈ ds, Fit b e x) → PyData.showableAll ds = true ∧ ((PyData.shownAll ds).map (·.length)).sum ≤ ds.length * b ∧ (PyData.shownAll ds).length = ds.length ∧ PyData.depthAll ds ≤ e
  | [], _ => ⟨rfl, by simp [PyData.shownAll], rfl, Nat.zero_le _⟩
  | x :: r, h => by
    obtain ⟨i1, i2, i3, i4⟩ := fit_all fun y hy => h y (List.mem_cons_of_mem _ hy)
    have hx := h x (List.mem_cons_self ..)
    have h2 := hx.len
    have h3 := hx.dep
    refine ⟨by simp only [PyData.showableAll, hx.sh, i1, Bool.and_self], ?_, ?_, ?_⟩
    · simp only [PyData.shownAll, List.map_cons, List.sum_cons, List.length_cons, Nat.add_mul, Nat.one_mul]
      omega
    · simp only [PyData.shownAll, List.length_cons, i3]
    · simp only [PyData.depthAll]
      exact Nat.max_le.mpr ⟨h3, i4⟩
theorem fit_tup {b e : Nat} {ds : List PyData} (h : ∀ x ∈ ds, Fit b e x) : Fit (ds.length * (b + 2) + 3) (e + 1) (.tuple ds) := by
  obtain ⟨i1, i2, i3, i4⟩ := fit_all h
  refine ⟨by simpa only [PyData.showable] using i1, ?_, by simp only [PyData.depth]; omega⟩
  simp only [PyData.shown]
  refine Nat.le_trans (tupleText_len_le _) ?_
  rw [i3, Nat.mul_add]
  omega
theorem fit_lst {b e : Nat} {ds : List PyData} (h : ∀ x ∈ ds, Fit b e x) : Fit (ds.length * (b + 2) + 3) (e + 1) (.list ds) := by
  obtain ⟨i1, i2, i3, i4⟩ := fit_all h
  refine ⟨by simpa only [PyData.showable] using i1, ?_, by simp only [PyData.depth]; omega⟩
  simp only [PyData.shown]
  refine Nat.le_trans (listText_len_le _) ?_
  rw [i3, Nat.mul_add]
  omega
/-- a tuple of pairs of words of at most n signs and numbers -/
theorem fit_pairs {f : Wd → Int} {l : List Wd} {n m : Nat} (h1 : ∀ p ∈ l, p.length ≤ n ∧ (∀ c ∈ p, c < 1000) ∧ 0 ≤ f p ∧ f p < 10 ^ 10) (hl : l.length ≤ m) (hn : n ≤ 100) : Fit (m * (2 * (10 * n + 14) + 5) + 3) 2 (pairsD f l) := by
  have one : ∀ x ∈ l.map (pairD f), Fit (2 * (10 * n + 14) + 3) 1 x := by
    intro x hx
    obtain ⟨p, hp, rfl⟩ := List.mem_map.mp hx
    obtain ⟨a1, a2, a3, a4⟩ := h1 p hp
    refine (fit_tup (b := 10 * n + 12) (e := 0) fun y hy => ?_).le (by simp) (Nat.le_refl _)
    rcases List.mem_cons.mp hy with rfl | hy
    · exact (fit_str a2 a1).le (by omega) (Nat.le_refl _)
    · rw [List.mem_singleton.mp hy]
      exact (fit_int a3 a4).le (by omega) (Nat.le_refl _)
  refine (fit_tup one).le ?_ (Nat.le_refl _)
  rw [List.length_map, show 2 * (10 * n + 14) + 3 + 2 = 2 * (10 * n + 14) + 5 by omega]
  have := Nat.mul_le_mul_right (2 * (10 * n + 14) + 5) hl
  omega
theorem Fit.shows {b e : Nat} {D : PyData} (h : Fit b e D) (h1 : b ≤ 1000000) (h2 : e ≤ 60) : Shows D := ⟨h.sh, Nat.le_trans h.len h1, Nat.le_trans h.dep h2⟩
end Vm
namespace Vf
open PySem PySem.Spec PyProof.Rows L2 L2.Vx
/-! ### a def that is called where repr is allowed, by one that is called so -/
section
variable {X : Cx} {k : Nat} {f : Addr} {fd : FuncData} {ps : List Str} {sp : Sp} {E : XK} {x : Str} {p pos : Pos} {ds : List Value} {dvs : List V} {t : TA} {e : Expr} {es : List Expr}
theorem run_fnG {pins : List (Addr × Obj)} {σ : L2.St} {H : Hp} {s : Shared} {Q : VK} {us : List Value} {vs : List V} (F : FnG X.prog X.w X.K X.mg X.base k f fd ps sp) (len : ∀ vs H Q E, sp vs H Q E → vs.length = ps.length) (hgd : X.A.guards = some []) (hr : Room k X.A)
    (hb : L2.Binds X.K fd ps ds) (hd : Vals dvs ds) (hx : Passes CX0 X E) (I : Inv X pins σ H s) (r : Vals vs us) (h : sp (vs ++ dvs) H Q E) : wpAny (model X.prog X.w) X.A (call (.ref f) us) (EP X pins σ Q) X.xe s := by
  have both : Vals (vs ++ dvs) (us ++ ds) := r.append hd
  have many : (us ++ ds).length = ps.length := by rw [← both.length]; exact len _ _ _ _ h
  refine wpAny_call (codeAny_mono (F.run X.A X.stack s H ⟨us, []⟩ (us ++ ds) (vs ++ dvs) Q E hr hgd I.env0 (hb s us I.kIn many) both h) fun res s' hq => ?_)
  match res, hq with
  | .error err, hq => exact hx pins σ H s err s' I hq
  | .ok (.ret u), hq => exact I.after hq
  | .ok .next, hq => exact False.elim hq
  | .ok .brk, hq => exact False.elim hq
  | .ok .cont, hq => exact False.elim hq
theorem pe_callG (F : FnG X.prog X.w X.K X.mg X.base k f fd ps sp) (len : ∀ vs H Q E, sp vs H Q E → vs.length = ps.length) (hgd : X.A.guards = some []) (hr : Room k X.A) (hg : Gl X x) (hm : X.mg x = some (.ref f)) (hk : PySem.W.keepIn X.K (.ref f) = true) (hb : L2.Binds X.K fd ps ds) (hd : Vals dvs ds) (hx : Passes CX0 X E)
    (ha : PA X (e :: es) t) (hdb : (x == ("__debug__" : Str)) = false := by decide) (he : starEach (e :: es) X.env = (false, eval e X.env) :: starEach es X.env := by rfl) (hpl : (backTo pos (starEach es X.env)).any (·.1) = false := by rfl) :
    PE X (.Call (.Name x p) (e :: es) [] pos) (tCall sp dvs E t) := by
  refine ⟨fun pins s σ H Q I h => wpAny_Call_Name_kw (ld_glob I hg hm ?_ hdb)⟩
  refine PySem.W.callWith_K (h₀ := X.base) I.ok.mod.kin hk (thn (ha.run pos pins s σ H _ I h) fun us s1 ⟨vs, H1, I1, r, q⟩ => ⟨I1.kIn, ?_⟩) he hpl
  exact run_fnG F len hgd hr hb hd hx I1 r q
end
end Vf

set_option Elab.async false
set_option linter.all false
set_option maxRecDepth 100000
set_option maxHeartbeats 4000000
namespace Vs
open PySem PySem.Spec PyProof.Rows L2 SrtO Vm
theorem strs_vals : ∀ {l : List Str} {its : List Value}, Vals (l.map V.str) its → StrsAre its l
  | [], its, h => by cases h; exact .nil
  | x :: l, its, h => by
    rw [List.map_cons] at h
    cases h with
    | cons r rr =>
      obtain ⟨t, rfl⟩ := r
      exact .cons _ _ (strs_vals rr)
section
variable {X : Cx}
/-- sorted(xs), texts, any number of them -/
theorem cr_sortedTL : CallR X (.builtin "sorted") (fun xs H Q => ∃ (a : Addr) (ks : List Wd), xs = [.ref a] ∧ SqL X.K H a ((ks.map mkS).map .str) ∧
    ∀ (ms : List Wd) p, ms.Perm ks → ms.Pairwise (fun x y => ¬ y < x) → H p = none → Q (.ref p) (upd H p (.lst ((ms.map mkS).map .str)))) := by
  intro pins s σ H vs us Q I r h
  obtain ⟨a, ks, rfl, hs, q⟩ := h
  obtain ⟨its, rv, hl, hz⟩ := I.list hs
  rw [Vals.ref1 r]
  have hi := strs_vals rv
  refine SrtO.sorted_ord SrtO.swo_text hl.isList (by rw [← rv.length]; exact hz) (fun h2 h₁ a' _ _ => SrtO.texts_sortable hi h2) fun out h1 h2 => ?_
  obtain ⟨k1, k2, k3⟩ := SrtO.texts_out hi h1 h2
  obtain ⟨ep, he'⟩ := PyProof.Rows.sortedAll_at s.heap its out.toArray
  have e : out.map strOf = ((out.map strOf).map fun y => y.cps.toList).map mkS := by
    rw [List.map_map, show (mkS ∘ fun y : Str => y.cps.toList) = id from funext fun y => mkS_of y, List.map_id]
  have pm : ((out.map strOf).map fun y => y.cps.toList).Perm ks := by
    have z := k2.map fun y : Str => y.cps.toList
    rw [List.map_map (l := ks)] at z
    have e2 : (fun y : Str => y.cps.toList) ∘ mkS = id := funext mkS_cps
    rw [e2, List.map_id] at z
    exact z
  have up : ((out.map strOf).map fun y => y.cps.toList).Pairwise (fun x y => ¬ y < x) := List.pairwise_map.mpr k3
  have hlen : ((out.map strOf).map V.str).length ≤ sizeLine := by
    rw [List.length_map, k2.length_eq]
    rw [List.length_map] at hz
    exact hz
  have fin := q _ (s.heap.objs.size + 1) pm up (I.hok.fresh (Nat.le_succ _))
  rw [← e] at fin
  exact ⟨.ref _, upd H (s.heap.objs.size + 1) (.lst ((out.map strOf).map V.str)), I.laid (t' := s.toks) (fun _ _ => PyProof.Rows.sortedAll_old) (Nat.le_succ _) ⟨hlen, out, ep, vals_of_strs k1, he'⟩, rfl, fin⟩
/-- z[::-1] -/
def tRevS (te : TE) : TE := fun σ H Q => te σ H fun x H1 => ∃ z : Wd, x = .str (mkS z) ∧ z.length ≤ sizeLine ∧ Q (.str (mkS z.reverse)) H1
theorem rev_idx (n : Nat) : Builtin.Str.strSliceIndices none none (-1) n = (List.range n).reverse := by
  have e : Builtin.Str.strSliceIndices none none (-1) n = sliceRange ((n : Int) - 1) (-1) (-1) := rfl
  rw [e, PySem.W.krv_sliceRange, PySem.W.krv_range]
theorem rev_text (z : Wd) : (⟨((Builtin.Str.strSliceIndices none none (-1) (mkS z).length).filterMap ((mkS z).cps[·]?)).toArray⟩ : Str) = mkS z.reverse := by
  rw [rev_idx, List.filterMap_reverse]
  have e := PySem.W.krv_all (mkS z).cps
  have e2 : (mkS z).length = (mkS z).cps.size := rfl
  rw [e2, e, mkS_cps]
  rfl
theorem pe_revS {e : Expr} {te : TE} {k : Nat} {p1 p2 p3 pos : Pos} (he : PE X e te) : PE X (.Subscript e (.Slice none none (some (.UnaryOp .USub (.Constant (.int 1) k p1) p2)) p3) pos) (tRevS te) := by
  refine ⟨fun pins s σ H Q I h => ?_⟩
  refine Subscript_ (thn (he.run pins s σ H _ I h) fun v s1 ⟨x, H1, I1, r1, q1⟩ => ?_)
  obtain ⟨z, ex, hx, q⟩ := q1
  subst ex
  obtain ⟨t, rfl⟩ := r1
  have hst : PO X (some (.UnaryOp .USub (.Constant (.int 1) k p1) p2)) (tPart (tUn (rU fun i => .int (-i)) (tC (.int 1)))) := po_some (pe_un un_neg pe_int)
  refine wpAny_Slice (thn (po_none.run pins s1 σ H1 (fun o H2 => o = none ∧ H2 = H1) I1 ⟨rfl, rfl⟩) fun vl s2 ⟨l, H2, I2, pl, el, e2⟩ => ?_)
  subst el e2
  refine thn (po_none.run pins s2 σ H2 (fun o H3 => o = none ∧ H3 = H2) I2 ⟨rfl, rfl⟩) fun vu s3 ⟨u, H3, I3, pu, eu, e3⟩ => ?_
  subst eu e3
  refine thn (hst.run pins s3 σ H3 (fun o H4 => o = some (-1) ∧ H4 = H3) I3 ⟨1, rfl, -1, rfl, rfl, rfl⟩) fun vs s4 ⟨o, H4, I4, ps, eo, e4⟩ => ?_
  subst eo e4
  have I5 : Inv X pins σ H4 { s4 with heap := s4.heap.push { cls := .type "slice", data := .fields #[vl, vu, vs] } } := I4.kept (t' := s4.toks) fun b ob q => Heap.get?_push_of_some _ q
  obtain ⟨l0, rfl, el0⟩ := IsPart.raw pl
  obtain ⟨u0, rfl, eu0⟩ := IsPart.raw pu
  obtain ⟨w0, rfl, ew0⟩ := IsPart.raw ps
  show wpAny (model X.prog X.w) X.A (subscriptTail e (.Slice none none (some (.UnaryOp .USub (.Constant (.int 1) k p1) p2)) p3) (.str (mkS z) t) (.ref s4.heap.objs.size)) (EP X pins σ Q) X.xe { s4 with heap := s4.heap.push { cls := .type "slice", data := .fields #[partValue l0, partValue u0, partValue w0] } }
  refine tail_any (ops := [.str (mkS z) t, .ref s4.heap.objs.size]) (typeIs_str _ _ _) (F.slot_str_getitem.lookup) ?_ (by with_unfolding_all rfl)
  obtain ⟨os, hos, hcs, hds⟩ := Heap.IsSliceOf.new s4.heap (partValue l0) (partValue u0) (partValue w0)
  refine wpAny_getItem_str_slice (l := l0) (u := u0) (st := w0) ⟨os, hos, hcs, hds⟩ (by rw [ew0]; rfl) ?_
  unfold sliceMade slicePicked
  rw [el0, eu0, ew0]
  rw [if_neg (by intro z; exact absurd z (by simp))]
  show Made.post (.str (⟨((Builtin.Str.strSliceIndices none none (-1) (mkS z).length).filterMap ((mkS z).cps[·]?)).toArray⟩ : Str)) (EP X pins σ Q) _
  rw [rev_text]
  refine ⟨by rw [mkS_length, List.length_reverse]; exact hx, .str _, H4, I5.tok _, ⟨_, rfl⟩, q⟩
end
end Vs

set_option Elab.async false
set_option linter.all false
set_option maxRecDepth 100000
set_option maxHeartbeats 4000000
namespace Vs
open PySem PySem.Spec PyProof.Rows L2 SrtO Vm
open PySem.Froz (SD sObj addTx tailTx sing TxOk)
section
variable {P : Program} {w : World} {A : Around} {E : Value → Shared → Prop} {s : Shared}
/-- the loop that puts the texts of a list in -/
theorem loop_txs {I : Addr} {fp wr : List Addr} {G : Array GenState → Array GenState → Prop} {n : Nat} {xs : List Str} {Pv : Nat → Value → Prop} {St : Nat → Shared → Prop} {R : Result → Shared → Prop}
    (W : WalksS P w A.in1 I fp wr G n Pv St) (S : Addr) (hSf : S ∉ fp) (hn : n = xs.length) (hb : n + 1 < scanBound) (hval : ∀ i v, Pv i v → ∃ k u, xs[i]? = some k ∧ v = .str k u) :
    ∀ (m i : Nat) (s : Shared), n - i = m → i ≤ n → St i s → (∃ D l, s.heap.get? S = some (sObj "set" D) ∧ Tx P w D l ∧ l.length ≤ i ∧ ∀ k, k ∈ l ↔ k ∈ xs.take i) →
      (∀ s' D l, Moved (S :: wr) G s s' → s'.heap.get? S = some (sObj "set" D) → Tx P w D l → l.length ≤ n → (∀ k, k ∈ l ↔ k ∈ xs) → R (.ok (.ret .none)) s') →
      codeAny (model P w) A (.builtin "set.update.loop" ⟨[.ref S, .ref I], []⟩) R s := by
  have hSw : S ∉ wr := fun h => hSf (W.sub _ h)
  have more : ∀ b ∈ wr, b ∈ S :: wr := fun b => List.mem_cons_of_mem _
  intro m
  induction m with
  | zero =>
    intro i s hm hi hst ⟨D, l, hS, F, hl, hmem⟩ hR
    obtain rfl : i = n := by omega
    refine codeAny_builtin PyProof.Rows.F.entry_set_update_loop ?_
    rw [Around.under_plainId PyProof.Rows.F.plain_set_update_loop _]
    refine wpAny_bind (W.done s _ _ hst fun s' mv => wpAny_pure (hR s' D l (mv.mono more) (mv.heap S _ hSw hS) F hl fun k => ?_))
    rw [hmem k, List.take_of_length_le (Nat.le_of_eq hn.symm)]
  | succ m ih =>
    intro i s hm hi hst ⟨D, l, hS, F, hl, hmem⟩ hR
    refine codeAny_builtin PyProof.Rows.F.entry_set_update_loop ?_
    rw [Around.under_plainId PyProof.Rows.F.plain_set_update_loop _]
    refine wpAny_bind (W.item i s _ _ (by omega) hst fun v s1 hP hst1 mv => ?_)
    obtain ⟨y, u, hp, rfl⟩ := hval i v hP
    have hS1 := mv.heap S _ hSw hS
    have hnx : ∀ k, k ∈ xs.take (i + 1) ↔ k ∈ l ∨ k = y := fun k => by
      rw [List.take_add_one, hp, List.mem_append, ← hmem k]
      simp
    refine wpAny_bind (wpAny_holding ?_)
    unfold setAdd
    refine wpAny_holding (wpAny_bind ((strKind P w).pyHash (k := y) (Froz.is_str _ _) ?_))
    by_cases hk : y ∈ l
    · refine add_old (s := { s1 with toks := s1.toks + 1 }) hS1 F.ok hk (by omega) ?_
      refine wpAny_pure ⟨plainId_quiet PyProof.Rows.F.plain_set_update_loop _, ih (i + 1) _ (by omega) (by omega) (W.frame _ s1 _ _ hst1 (Nat.le_succ _) fun b _ o e => e) ⟨D, l, hS1, F, by omega, fun k => ?_⟩ fun s2 D2 l2 mv2 hS2 F2 n2 h2 => ?_⟩
      · rw [hnx k]
        exact ⟨.inl, fun z => z.elim id fun z => z ▸ hk⟩
      · exact hR s2 D2 l2 (Moved.trans W.gtrans ((mv.mono more).then_heap (Nat.le_succ _) fun b o _ e => e) mv2) hS2 F2 n2 h2
    · refine Froz.add_x (s := { s1 with toks := s1.toks + 1 }) hS1 F.ok hk (by omega) ?_
      have hS2 : (s1.heap.update S (fun _ => sObj "set" (addTx (hashStr w y) (.str y u) D))).get? S = some (sObj "set" (addTx (hashStr w y) (.str y u) D)) := Froz.get_upd _ hS1 rfl
      have other : ∀ b o, b ≠ S → s1.heap.get? b = some o → (s1.heap.update S (fun _ => sObj "set" (addTx (hashStr w y) (.str y u) D))).get? b = some o := fun b o n e => (Heap.get?_update_other _ _ (Ne.symm n)).trans e
      refine wpAny_pure ⟨plainId_quiet PyProof.Rows.F.plain_set_update_loop _, ih (i + 1) _ (by omega) (by omega) (W.frame _ s1 _ _ hst1 (Nat.le_succ _) fun b hb' o e => other b o (fun z => hSf (z ▸ hb')) e) ⟨_, y :: l, hS2, F.add u hk, (by simp only [List.length_cons]; omega), fun k => ?_⟩ fun s2 D2 l2 mv2 hS3 F2 n2 h2 => ?_⟩
      · rw [hnx k, List.mem_cons]
        exact Or.comm
      · exact hR s2 D2 l2 (Moved.trans W.gtrans ((mv.mono more).then_heap (Nat.le_succ _) fun b o nb e => other b o (fun z => nb (z ▸ List.mem_cons_self ..)) e) mv2) hS3 F2 n2 h2
/-- set(list of texts) -/
theorem call_set_list {l : Addr} {items : Array Value} {xs : List Str} {Q : Value → Shared → Prop} (hh : A.handled = none) (hl : s.heap.IsList l items) (hx : StrsAre items.toList xs) (hb : xs.length + 1 < scanBound)
    (h : ∀ (s' : Shared) D m, (∀ b o, s.heap.get? b = some o → s'.heap.get? b = some o) → s'.gens = s.gens → s'.os = s.os → s'.heap.get? s.heap.objs.size = some (sObj "set" D) → Tx P w D m → m.length ≤ xs.length → (∀ k, k ∈ m ↔ k ∈ xs) → Q (.ref s.heap.objs.size) s') :
    wpAny (model P w) A (call (.type "set") [.ref l]) Q E s := by
  refine set_by_init fun R hR => ?_
  have hlen : items.size = xs.length := by
    have q := StrsAre.length hx
    rw [Array.length_toList] at q
    exact q
  have hS : (s.heap.push (sObj "set" (emptyD w))).get? s.heap.objs.size = some (sObj "set" (emptyD w)) := Heap.get?_push_size _ rfl
  have hold : ∀ b o, s.heap.get? b = some o → (s.heap.push (sObj "set" (emptyD w))).get? b = some o := fun b o e => Heap.get?_push_of_some _ e
  have hl1 : (s.heap.push (sObj "set" (emptyD w))).IsList l items := hl.push _
  have hls : l ≠ s.heap.objs.size := by
    obtain ⟨_, e, _⟩ := hl
    exact Nat.ne_of_lt (Heap.lt_size e)
  have t1 := F.sub_list_set
  have t2 := F.sub_list_frozenset
  have t3 : (Value.type "list" == Value.type "dict") = false := by decide
  have hty : Shared.TypeIs { s with heap := s.heap.push (sObj "set" (emptyD w)) } (.ref l) "list" := hl1.typeIs (s := { s with heap := s.heap.push (sObj "set" (emptyD w)) })
  generalize s.heap.push (sObj "set" (emptyD w)) = h1 at hS hold hl1 hty ⊢
  unfold Builtin.«set.__init__» noKeywords Builtin.Frozenset.updateFrom
  generalize hPI : pyIter = PI
  wp_walk
  subst hPI
  refine iter_any hl1 fun s2 e2 st hne => wpAny_bind (wpAny_runValue ?_)
  subst e2
  have hx1 : ∀ b u', h1.get? b = some u' → b ≠ h1.objs.size := fun b u' e => Nat.ne_of_lt (Heap.lt_size e)
  have hSf : s.heap.objs.size ∉ [h1.objs.size, l] := fun z => by
    rcases List.mem_cons.mp z with z | z
    · exact hx1 _ _ hS z
    · exact hls (List.mem_singleton.mp z).symm
  have hval : ∀ (i : Nat) (v : Value), items[i]? = some v → ∃ k u, xs[i]? = some k ∧ v = .str k u := fun i v hv => by
    have hi : i < xs.length := by rw [← hlen]; exact (Array.getElem?_eq_some_iff.mp hv).1
    obtain ⟨t, e⟩ := SS.strs_at hx i v (by rw [Array.getElem?_toList]; exact hv)
    refine ⟨xs[i], t, List.getElem?_eq_getElem hi, ?_⟩
    rw [e, List.getD_eq_getElem?_getD, List.getElem?_eq_getElem hi] <;> rfl
  refine loop_txs ((Walks.list (by simp [hh]) _ l hne items).toS) s.heap.objs.size hSf hlen (by rw [hlen]; exact hb) hval _ 0 _ rfl (Nat.zero_le _) st ⟨_, [], Heap.get?_push_of_some _ hS, tx_empty, Nat.le_refl _, fun k => by simp⟩ fun s2 D m mv hS2 F hm1 hm => ?_
  refine wpAny_pure (wpAny_pure (hR _ (h s2 D m (fun b o' e => ?_) mv.gens mv.os hS2 F (by rw [← hlen]; exact hm1) hm)))
  refine mv.heap b o' (fun z => ?_) (Heap.get?_push_of_some _ (hold b o' e))
  rcases List.mem_cons.mp z with z | z
  · rw [z] at e
    exact Nat.lt_irrefl _ (Heap.lt_size e)
  · exact hx1 _ _ (hold b o' e) (List.mem_singleton.mp z)
end
section
variable {X : Cx}
/-- set(xs), texts, then sorted -/
theorem cr_setListAt {P : Program} {w : World} (hc : X.calm = true) (eP : X.prog = P) (ew : X.w = w) : CallR X (.type "set") (fun xs H Q => ∃ (a : Addr) (ks : List Wd), xs = [.ref a] ∧ SqL X.K H a ((ks.map mkS).map .str) ∧ ks.length ≤ 4000 ∧
    ∀ p l (ms : List Wd), H p = none → l.Perm (ms.map mkS) → ms.Nodup → ms.length ≤ 4000 → (∀ k, k ∈ ms ↔ k ∈ ks) → Q (.ref p) (upd H p (SetTxO P w p l))) := by
  subst eP
  subst ew
  intro pins s σ H vs us Q I r h
  obtain ⟨a, ks, rfl, hs, hl, q⟩ := h
  obtain ⟨its, rv, hl0, hz⟩ := I.list hs
  rw [Vals.ref1 r]
  have hx := strs_vals rv
  refine call_set_list (I.ok.hd hc) hl0.isList (by simpa using hx) (by rw [List.length_map]; exact Nat.lt_of_le_of_lt (Nat.succ_le_succ hl) (by decide)) fun s' D l k g o hS F hn hm => ?_
  have em : ((l.map (fun y : Str => y.cps.toList)).map mkS) = l := by
    rw [List.map_map, show (mkS ∘ fun y : Str => y.cps.toList) = id from funext fun y => mkS_of y, List.map_id]
  refine laid_new I k g o (Nat.le_refl _) (setTxO_new ⟨D, hS, F⟩) fun hn' => q _ l (l.map fun y : Str => y.cps.toList) hn' (by rw [em]) ?_ ?_ fun x => ?_
  · refine List.Pairwise.map _ (fun a b n e => n ?_) F.nd
    rw [← mkS_of a, ← mkS_of b, e]
  · rw [List.length_map]
    rw [List.length_map] at hn
    omega
  · constructor
    · intro h
      obtain ⟨y, hy, rfl⟩ := List.mem_map.mp h
      obtain ⟨z, hz, e⟩ := List.mem_map.mp ((hm y).mp hy)
      rw [← e, mkS_cps]
      exact hz
    · intro h
      have h2 := (hm (mkS x)).mpr (List.mem_map_of_mem h)
      have h3 := List.mem_map_of_mem (f := fun y : Str => y.cps.toList) h2
      rw [mkS_cps] at h3
      exact h3
end
end Vs

set_option Elab.async false
set_option linter.all false
set_option maxRecDepth 100000
set_option maxHeartbeats 4000000
namespace Vf
open PySem PySem.Spec PyProof.Rows L2
/-! ### the text by places -/
def top (i : Nat) : Stmt := PySem.Challenge.pw_piecesseen_k21_texts_that_judges_accept.main.body.getD i (.Pass ⟨0, 0, 0, 0⟩)
abbrev sDeck : Stmt := top 9
abbrev sDraw : Stmt := top 10
abbrev sPick : Stmt := top 11
/-! ### the deck, a dict: what holds of it between draws -/
theorem same_new {H : Hp} {p : Addr} (h : H p = none) (o : HO) : Same H (upd H p o) := fun b u q => by rw [upd_ne (ne_of_none q h)]; exact q
abbrev kI : Key := Sum.inr "cells"
abbrev kT : Key := Sum.inr "mixed"
abbrev kD : Key := Sum.inr "draws"
theorem kIT : ¬ kI = kT := by decide
theorem kID : ¬ kI = kD := by decide
theorem kTI : ¬ kT = kI := by decide
theorem kTD : ¬ kT = kD := by decide
theorem kDI : ¬ kD = kI := by decide
theorem kDT : ¬ kD = kT := by decide
abbrev deckL (g : Addr) (m n : Int) : List (Key × V) := [(kI, .ref g), (kT, .int m), (kD, .int n)]
theorem deck_items {g : Addr} {m n : Int} : valV (deckL g m n) kI = some (.ref g) := valV_pos (p := (kI, V.ref g)) rfl
theorem deck_total {g : Addr} {m n : Int} : valV (deckL g m n) kT = some (.int m) := (valV_neg (p := (kI, V.ref g)) kIT).trans (valV_pos (p := (kT, V.int m)) rfl)
theorem deck_draws {g : Addr} {m n : Int} : valV (deckL g m n) kD = some (.int n) := ((valV_neg (p := (kI, V.ref g)) kID).trans (valV_neg (p := (kT, V.int m)) kTD)).trans (valV_pos (p := (kD, V.int n)) rfl)
theorem get_items {H : Hp} {d g : Addr} {m n : Int} (e : H d = some (.dK (deckL g m n))) : DGet H d (.str "cells") (some (.ref g)) := by
  have z := DGet.k (k := kI) e
  rw [deck_items] at z
  exact z
theorem get_total {H : Hp} {d g : Addr} {m n : Int} (e : H d = some (.dK (deckL g m n))) : DGet H d (.str "mixed") (some (.int m)) := by
  have z := DGet.k (k := kT) e
  rw [deck_total] at z
  exact z
theorem get_draws {H : Hp} {d g : Addr} {m n : Int} (e : H d = some (.dK (deckL g m n))) : DGet H d (.str "draws") (some (.int n)) := by
  have z := DGet.k (k := kD) e
  rw [deck_draws] at z
  exact z
theorem deck_put {g : Addr} {m n j : Int} : putK (deckL g m n) kD (.int j) = deckL g m j := by
  have a : ((deckL g m n).any fun kv => decide (kv.1 = kD)) = true := by rw [valV_any, deck_draws]; rfl
  unfold putK
  rw [if_pos a]
  show [(if kI = kD then (kI, V.int j) else (kI, V.ref g)), (if kT = kD then (kT, V.int j) else (kT, V.int m)), (if kD = kD then (kD, V.int j) else (kD, V.int n))] = _
  rw [if_neg kID, if_neg kTD, if_pos rfl]
theorem deck_merge {g : Addr} {m n : Int} : mergeK [] (deckL g m n) = deckL g m n := by
  show putK (putK (putK [] kI (.ref g)) kT (.int m)) kD (.int n) = _
  rw [putK_new (kvs := []) (.ref g) valV_nil]
  rw [putK_new (kvs := [] ++ [(kI, V.ref g)]) (.int m) (valV_neg (p := (kI, V.ref g)) kIT)]
  rw [putK_new (kvs := [] ++ [(kI, V.ref g)] ++ [(kT, V.int m)]) (.int n) ((valV_neg (p := (kI, V.ref g)) kID).trans (valV_neg (p := (kT, V.int m)) kTD))]
  rfl
/-- a deck at d, its items at g, at most c draws so far -/
def DeckAt (c : Nat) (H : Hp) (d g : Addr) : Prop := ∃ (ns : List Int) (m n : Int), H d = some (.dK (deckL g m n)) ∧ H g = some (.lst (ns.map V.int)) ∧ ns.length ≤ 63 ∧ d ≠ g ∧ 0 ≤ n ∧ n ≤ c
/-- all that was tracked stands, but for d and g -/
def Keeps (d g : Addr) (H H' : Hp) : Prop := ∀ b o, b ≠ d → b ≠ g → H b = some o → H' b = some o
theorem Keeps.refl (d g : Addr) (H : Hp) : Keeps d g H H := fun _ _ _ _ h => h
theorem Keeps.trans {d g : Addr} {H H1 H2 : Hp} (a : Keeps d g H H1) (b : Keeps d g H1 H2) : Keeps d g H H2 := fun c o n1 n2 h => b c o n1 n2 (a c o n1 n2 h)
theorem Keeps.of {d g : Addr} {H H' : Hp} (s : Same H H') : Keeps d g H H' := fun b o _ _ h => s b o h
theorem Keeps.upd_d {d g : Addr} {H H' : Hp} (k : Keeps d g H H') (o : HO) : Keeps d g H (upd H' d o) := fun b u n1 n2 h => by rw [upd_ne n1]; exact k b u n1 n2 h
theorem Keeps.upd_g {d g : Addr} {H H' : Hp} (k : Keeps d g H H') (o : HO) : Keeps d g H (upd H' g o) := fun b u n1 n2 h => by rw [upd_ne n2]; exact k b u n1 n2 h
theorem DeckAt.same {c : Nat} {H H' : Hp} {d g : Addr} (h : DeckAt c H d g) (s : Same H H') : DeckAt c H' d g := by
  obtain ⟨ns, m, n, h1, h2, h3⟩ := h
  exact ⟨ns, m, n, s _ _ h1, s _ _ h2, h3⟩
theorem DeckAt.le {c c' : Nat} {H : Hp} {d g : Addr} (h : DeckAt c H d g) (e : c ≤ c') : DeckAt c' H d g := by
  obtain ⟨ns, m, n, h1, h2, h3, h4, h5, h6⟩ := h
  exact ⟨ns, m, n, h1, h2, h3, h4, h5, by omega⟩
theorem DeckAt.other {c : Nat} {H : Hp} {d g p : Addr} (h : DeckAt c H d g) (n1 : p ≠ d) (n2 : p ≠ g) (o : HO) : DeckAt c (upd H p o) d g := by
  obtain ⟨ns, m, n, h1, h2, h3⟩ := h
  exact ⟨ns, m, n, by rw [upd_ne n1.symm]; exact h1, by rw [upd_ne n2.symm]; exact h2, h3⟩
theorem DeckAt.dn {c : Nat} {H : Hp} {d g p : Addr} (h : DeckAt c H d g) (hp : H p = none) : p ≠ d ∧ p ≠ g := by
  obtain ⟨ns, m, n, h1, h2, _⟩ := h
  exact ⟨(ne_of_none h1 hp).symm, (ne_of_none h2 hp).symm⟩
theorem Keeps.free {d g t : Addr} {H H' : Hp} (k : Keeps d g H H') (n1 : t ≠ d) (n2 : t ≠ g) (e : H' t = none) : H t = none := by
  cases z : H t with
  | none => rfl
  | some u =>
    have y := k t u n1 n2 z
    rw [e] at y
    exact nomatch y
theorem Keeps.seq {K : PySem.W.Frag} {d g a : Addr} {H H' : Hp} {xs : List V} (k : Keeps d g H H') (n1 : a ≠ d) (n2 : a ≠ g) (h : SqL K H a xs) : SqL K H' a xs := by
  rcases h with (h | ⟨o, h⟩) | h
  · exact .inl (.inl (k _ _ n1 n2 h))
  · exact .inl (.inr ⟨o, k _ _ n1 n2 h⟩)
  · exact .inr h
/-- so many draws and no more -/
def most : Nat := 1000000000000
/-! ### promises -/
def spDeck (K : PySem.W.Frag) : Sp := fun vs H Q _ => ∃ (a : Addr) (ns : List Int), vs = [.ref a] ∧ SqL K H a (ns.map V.int) ∧ ns.length ≤ 63 ∧
  ∀ (d g : Addr) (H' : Hp), Same H H' → H d = none → H g = none → DeckAt 0 H' d g → Q (.ref d) H'
def spDraw : Sp := fun vs H Q _ => ∃ (d g : Addr) (b : Int) (c : Nat), vs = [.ref d, .int b] ∧ 0 < b ∧ b < 1073741824 ∧ DeckAt c H d g ∧ c < most ∧
  ∀ (r : Int) (H' : Hp), 0 ≤ r → r < b → DeckAt (c + 1) H' d g → Keeps d g H H' → Q (.int r) H'
def spPick (K : PySem.W.Frag) : Sp := fun vs H Q _ => ∃ (d g p : Addr) (xs : List V) (c : Nat), vs = [.ref d, .ref p] ∧ (SqL K H p xs) ∧ p ≠ d ∧ p ≠ g ∧ xs ≠ [] ∧ xs.length < 1000000 ∧ DeckAt c H d g ∧ c < most ∧
  ∀ (x : V) (H' : Hp), x ∈ xs → DeckAt (c + 1) H' d g → Keeps d g H H' → Q x H'
def spPickS : Sp := fun vs H Q _ => ∃ (d g : Addr) (z : Str) (c : Nat), vs = [.ref d, .str z] ∧ 0 < z.length ∧ z.length < 1000000 ∧ DeckAt c H d g ∧ c < most ∧
  ∀ (x : Nat) (H' : Hp), x ∈ z.cps.toList → DeckAt (c + 1) H' d g → Keeps d g H H' → Q (.str ⟨#[x]⟩) H'
/-- what the top leaves of the names that these defs use -/
structure TxtD (mg : Str → Option Value) (fW : Addr) : Prop where
  list : mg "list" = none
  int : mg "int" = none
  len : mg "len" = none
  draw : mg "_law_draw" = some (.ref fW)
section
variable {P : Program} {w : World} {K : PySem.W.Frag} {mg : Str → Option Value} {base : Heap}
theorem scDeck : FnScope ["_law_script", "_law_cells", "_law_mixed", "_law_cell"] ["_law_script"] (defScope sDeck) := ⟨rfl, rfl, rfl, by decide +kernel, rfl, by decide +kernel, by decide +kernel⟩
theorem int_at {ns : List Int} {i : Nat} {y : V} (h : (ns.map V.int)[i]? = some y) : ∃ z : Int, ns[i]? = some z ∧ y = .int z := by
  rw [List.getElem?_map] at h
  cases e : ns[i]? with
  | none => rw [e] at h; cases h
  | some z => rw [e] at h; exact ⟨z, rfl, (Option.some.inj h).symm⟩
theorem cut63 {xs : List V} (h : xs.length ≤ 63) : cutV xs none (some 63) = xs := by
  unfold cutV
  have e1 : HT.sIx xs.length 0 none = 0 := rfl
  have e2 : HT.sIx xs.length xs.length (some 63) = min 63 xs.length := HT.sIx_nat _ _ 63
  rw [e1, e2, List.drop_zero]
  exact List.take_of_length_le (by omega)
theorem ok_deck {f : Addr} {fd : FuncData} {fW : Addr} (F : Fun K "_law_deck" "_law_deck" sDeck f fd) (T : TxtD mg fW) : FnOk P w K mg base CX0 1 f fd ["_law_script"] (spDeck K) := by
  refine F.ok scDeck (fun vs H Q E h => ?_) (fun cdv A outer s H vs Q E hr h => ?_)
  · obtain ⟨a, ns, rfl, _⟩ := h
    rfl
  obtain ⟨a, ns, rfl, hS, h63, k⟩ := h
  refine ⟨_, pss_cons (ps_par (i := 1) (j := 2) rfl scDeck.nd rfl rfl (by decide) rfl rfl (pa_cons (pe_callTy call_list_of (by rfl) T.list (by decide +kernel) (pa_cons (pe_slice sl_list (pv 0) po_none (po_some pe_int)) pa_nil)) (pa_cons pe_int pa_nil)) (by rfl))
    (pss_cons (ps_for PassesOwn.never rfl (pi_list (pv 1)) (pg_name (i := 3) scDeck.nd rfl (Or.inl rfl))
      (pss_one (ps_set (i := 2) scDeck.nd rfl (Or.inl rfl) (pe_op op_mod (pe_callTy call_int1 (by rfl) T.int (by decide +kernel) (pa_cons (pe_op op_add (pe_op op_add (pe_op op_mul (pv 2) pe_int) (pe_op op_mod (pe_callTy call_int1 (by rfl) T.int (by decide +kernel) (pa_cons (pv 3) pa_nil)) pe_int)) pe_int) pa_nil)) pe_int))))
    (pss_one (ps_ret (pe_disp (pps_cons pe_str (pe_revL (pv 1)) (pps_cons pe_str (pv 2) (pps_cons pe_str pe_int pps_nil))) (by rfl) (by rfl) (fun z => by cases z) (by decide))))), ?_⟩
  have hlm : (ns.map V.int).length = ns.length := List.length_map _
  refine ⟨_, rfl, _, rfl, a, _, rfl, hS, fun p hp => ?_⟩
  rw [cut63 (by rw [hlm]; exact h63)]
  refine ⟨p, _, rfl, .inl (SqL.of upd_same), fun l hl => ?_⟩
  refine ⟨_, _, rfl, ?_⟩
  have s1 : Same H (upd (upd H p (.lst (ns.map V.int))) l (.lst (ns.map V.int))) := (same_new hp _).trans (same_new hl _)
  have hl0 : H l = none := (same_new hp _).free hl
  refine ⟨_, rfl, l, rfl, ⟨_, SqL.of upd_same⟩, for_list (K := K) (a := l) (xs := ns.map V.int) (fun i σ H' => ∃ (m : Int) (v : Option V), σ = [some (.ref a), some (.ref l), some (.int m), v] ∧ -4294967296 < m ∧ m < 4294967296 ∧ H' = upd (upd H p (.lst (ns.map V.int))) l (.lst (ns.map V.int)))
    ⟨_, none, rfl, by decide, by decide, rfl⟩ (fun i σ H' _ ⟨_, _, _, _, _, e⟩ => e ▸ SqL.of upd_same) ?_ ?_⟩
  · rintro i y σ H' hi ⟨m, v, rfl, hm0, hm1, rfl⟩
    obtain ⟨z, _, rfl⟩ := int_at hi
    refine ⟨_, rfl, _, _, rfl, rfl, .inr ⟨by decide, by decide⟩, _, rfl, .inl ⟨_, rfl, _, _, rfl, rfl, (by show (0 : Int) < _; decide), _, _, rfl, rfl, _, _, rfl, rfl, .inl ⟨_, rfl, _, _, rfl, rfl, (by show (0 : Int) < _; decide), ?_⟩⟩⟩
    refine ⟨_, some (.int z), rfl, ?_, ?_, rfl⟩
    · exact Int.lt_of_lt_of_le (by decide) (Int.emod_nonneg _ (by decide))
    · exact Int.lt_trans (Int.emod_lt_of_pos _ (by decide)) (by decide)
  · rintro σ H' ⟨m, v, rfl, hm0, hm1, rfl⟩
    intro d hd
    have s2 := s1.trans (same_new hd (.dK []))
    have e1 := same_new hd (.dK []) _ _ (upd_same (H := upd H p (.lst (ns.map V.int))) (a := l) (o := .lst (ns.map V.int)))
    refine ⟨_, rfl, l, _, rfl, SqL.of e1, fun g hg => ?_⟩
    have gd : g ≠ d := (ne_of_none upd_same hg).symm
    refine ⟨_, rfl, ?_⟩
    refine ⟨by rw [upd_ne gd.symm]; exact upd_same, deckL g m 0, rfl, (by show 3 ≤ 15; decide), ?_⟩
    rw [deck_merge]
    refine k d g _ (fun b o e => ?_) (s1.free hd) (s2.free hg) ⟨ns.reverse, m, 0, upd_same, ?_, by rw [List.length_reverse]; exact h63, gd.symm, Int.le_refl _, Int.le_refl _⟩
    · rw [upd_ne (ne_of_none e (s1.free hd))]
      exact (same_new hg _) _ _ (s2 _ _ e)
    · rw [upd_ne gd, upd_same, List.map_reverse]
/-! ### a draw -/
theorem scDraw : FnScope ["_law_deck_here", "_law_many", "_law_turn", "_law_cell", "_law_found"] ["_law_deck_here", "_law_many"] (defScope sDraw) := ⟨rfl, rfl, rfl, by decide +kernel, rfl, by decide +kernel, by decide +kernel⟩
theorem canLay_ints : ∀ ns : List Int, PyData.canLayAll0 (ns.map .int) = true
  | [] => rfl
  | n :: r => by simp only [List.map, PyData.canLayAll0, PyData.canLay0, canLay_ints r, Bool.and_self]
theorem depth_ints : ∀ ns : List Int, PyData.depthAll (ns.map .int) = 0
  | [] => rfl
  | n :: r => by simp only [List.map, PyData.depthAll, PyData.depth, depth_ints r, Nat.max_self]
theorem shaped_ints (ns : List Int) : SeqAt.shaped (.list (ns.map .int)) = true := by
  simp [SeqAt.shaped, PyData.canLay0, canLay_ints, PyData.depth, depth_ints]
theorem eqv_nil (ns : List Int) : PyData.eqv (.list (ns.map .int)) (.list []) = ns.isEmpty := by
  cases ns <;> simp [PyData.eqv, PyData.eqvAll]
theorem dpAll_ints {H : Hp} : ∀ ns : List Int, DpAll K H (ns.map V.int) (ns.map .int)
  | [] => .nil
  | n :: r => .cons (.int n) (dpAll_ints r)
theorem dp_ints {H : Hp} {a : Addr} {ns : List Int} (h : SqL K H a (ns.map V.int)) : Dp K H (.ref a) (.list (ns.map .int)) := .lst h (dpAll_ints ns)
theorem ok_draw {f : Addr} {fd : FuncData} {fW : Addr} (F : Fun K "_law_draw" "_law_draw" sDraw f fd) (T : TxtD mg fW) : FnOk P w K mg base CX0 1 f fd ["_law_deck_here", "_law_many"] spDraw := by
  refine F.ok scDraw (fun vs H Q E h => ?_) (fun cdv A outer s H vs Q E hr h => ?_)
  · obtain ⟨d, g, b, c, rfl, _⟩ := h
    rfl
  obtain ⟨d, g, b, c, rfl, hb0, hb1, ⟨ns, m, n, h1, h2, h63, hdg, hn0, hn1⟩, hc, k⟩ := h
  unfold most at hc
  refine ⟨_, pss_cons (ps_dput (hu_of hr) (pv 0) pe_str (pe_op op_add (pe_dget (hu_of hr) (pv 0) pe_str (fun _ _ => rfl)) pe_int) rfl)
    (pss_cons (ps_par (i := 2) (j := 3) rfl scDraw.nd rfl rfl (by decide) rfl rfl (pa_cons (pe_dget (hu_of hr) (pv 0) pe_str (fun _ _ => rfl)) (pa_cons (pe_dget (hu_of hr) (pv 0) pe_str (fun _ _ => rfl)) pa_nil)) (by rfl))
    (C8.pss_cut (ps_if (pt_cmpR (op_neD hr.units) (pe_dget (hu_of hr) (pv 0) pe_str (fun _ _ => rfl)) (pe_lst pa_nil) (nomark _))
        (pss_cons (ps_set (i := 3) scDraw.nd rfl (Or.inl rfl) (pe_bm0 PySem.F.plainAttrs_list PySem.F.slot_list_pop PySem.F.type_list_pop mt_pop (pe_dget (hu_of hr) (pv 0) pe_str (fun _ _ => rfl))))
        (pss_cons (ps_if (pt_cmpR op_ge (pv 3) (pe_op op_pow pe_int pe_int) (nomark _))
            (pss_cons (ps_expr (pe_bm PySem.F.plainAttrs_list PySem.F.slot_list_append PySem.F.type_list_append mt_append (pe_dget (hu_of hr) (pv 0) pe_str (fun _ _ => rfl)) (pa_cons (pe_op op_fdivN (pv 3) (pv 1)) pa_nil)))
            (pss_one (ps_ret (pe_op op_modN (pe_callTy call_int1 (by rfl) T.int (by decide +kernel) (pa_cons (pv 3) pa_nil)) (pv 1))))) pss_nil)
        (pss_one (ps_set (i := 3) scDraw.nd rfl (Or.inl rfl) (pe_op op_add (pv 3) (pe_dget (hu_of hr) (pv 0) pe_str (fun _ _ => rfl))))))) pss_nil)
    (pss_cons (ps_set (i := 4) scDraw.nd rfl (Or.inl rfl) (pe_op op_mod (pe_op op_mul (pe_callTy call_int1 (by rfl) T.int (by decide +kernel) (pa_cons (pe_op op_add (pe_op op_add (pe_op op_mod (pe_callTy call_int1 (by rfl) T.int (by decide +kernel) (pa_cons (pv 3) pa_nil)) pe_int) (pe_op op_mul (pe_op op_mul pe_int (pv 2)) (pv 2))) pe_int) pa_nil)) pe_int) pe_int))
    (pss_cons (ps_set (i := 4) scDraw.nd rfl (Or.inl rfl) (pe_op op_mod (pe_callTy call_int1 (by rfl) T.int (by decide +kernel) (pa_cons (pe_op op_add (pe_op op_add (pe_op op_mul (pv 4) (pv 4)) (pe_op op_mul pe_int (pv 2))) pe_int) pa_nil)) pe_int))
    (pss_one (ps_ret (pe_op op_modN (pe_op op_fdiv (pe_op op_mod (pe_callTy call_int1 (by rfl) T.int (by decide +kernel) (pa_cons (pe_op op_mul (pv 4) pe_int) pa_nil)) pe_int) pe_int) (pv 1)))))))), ?_⟩
  -- one draw more
  refine ⟨_, rfl, d, _, rfl, get_draws h1, _, _, rfl, rfl, _, rfl, d, _, rfl, DPut.k (k := kD) h1 (by show 3 < sizeLine; decide), ?_⟩
  rw [deck_put]
  have hgd : g ≠ d := hdg.symm
  have e1 : upd H d (.dK (deckL g m (n + 1))) d = some (.dK (deckL g m (n + 1))) := upd_same
  have e2 : upd H d (.dK (deckL g m (n + 1))) g = some (.lst (ns.map V.int)) := by rw [upd_ne hgd]; exact h2
  have kp : Keeps d g H (upd H d (.dK (deckL g m (n + 1)))) := (Keeps.refl d g H).upd_d _
  generalize upd H d (.dK (deckL g m (n + 1))) = H1 at e1 e2 kp ⊢
  refine ⟨_, rfl, d, _, rfl, get_draws e1, _, rfl, d, .int m, rfl, get_total e1, _, _, rfl, ?_⟩
  -- what stands behind the if
  refine ⟨fun σ H' => ∃ (x : Int) (v : Option V), σ = [some (.ref d), some (.int b), some (.int (n + 1)), some (.int x), v] ∧ DeckAt (c + 1) H' d g ∧ Keeps d g H H', ?_, ?_⟩
  · refine ⟨_, rfl, d, .ref g, rfl, get_items e1, Nat.zero_le _, fun p hp => ?_⟩
    have hpd : p ≠ d := (ne_of_none e1 hp).symm
    have hpg : p ≠ g := (ne_of_none e2 hp).symm
    have e3 : upd H1 p (.lst []) d = some (.dK (deckL g m (n + 1))) := by rw [upd_ne hpd.symm]; exact e1
    have e4 : upd H1 p (.lst []) g = some (.lst (ns.map V.int)) := by rw [upd_ne hpg.symm]; exact e2
    have kp1 : Keeps d g H (upd H1 p (.lst [])) := kp.trans (.of (same_new hp _))
    refine ⟨_, _, dp_ints (SqL.of e4), .lst (SqL.of upd_same) .nil, shaped_ints ns, rfl, _, rfl, ?_⟩
    rw [eqv_nil]
    generalize upd H1 p (.lst []) = H2 at e3 e4 kp1
    rcases List.eq_nil_or_concat ns with rfl | ⟨ms, z, rfl⟩
    · rw [if_neg (by simp)]
      exact ⟨_, none, rfl, ⟨[], m, n + 1, e3, e4, Nat.zero_le _, hdg, by omega, by omega⟩, kp1⟩
    · rw [if_pos (by simp)]
      rw [List.concat_eq_append, List.map_append] at e4
      rw [List.concat_eq_append] at h63
      have e4' : H2 g = some (.lst (ms.map V.int ++ [V.int z])) := e4
      have hlast : (ms.map V.int ++ [V.int z])[(ms.map V.int ++ [V.int z]).length - 1]? = some (V.int z) := by simp
      have hms : ms.length + 1 ≤ 63 := by rw [List.length_append, List.length_singleton] at h63; exact h63
      refine ⟨_, rfl, d, .ref g, rfl, get_items e3, .inl ⟨rfl, _, SqL.of e4'⟩, g, _, _, rfl, rfl, e4', hlast, ?_⟩
      have e5 : upd H2 g (.lst (ms.map V.int ++ [V.int z]).dropLast) d = some (.dK (deckL g m (n + 1))) := by rw [upd_ne hdg]; exact e3
      have e6 : upd H2 g (.lst (ms.map V.int ++ [V.int z]).dropLast) g = some (.lst (ms.map V.int)) := by rw [upd_same, List.dropLast_concat]
      have kp3 : Keeps d g H (upd H2 g (.lst (ms.map V.int ++ [V.int z]).dropLast)) := kp1.upd_g _
      generalize upd H2 g (.lst (ms.map V.int ++ [V.int z]).dropLast) = H3 at e5 e6 kp3
      refine ⟨_, rfl, _, _, rfl, rfl, ⟨by decide, by decide, by decide⟩, _, _, rfl, rfl, _, rfl, ?_⟩
      refine ite2 (fun _ => ?_) (fun _ => ?_)
      · refine ⟨_, rfl, d, .ref g, rfl, get_items e5, .inl ⟨rfl, _, SqL.of e6⟩, _, rfl, _, rfl, _, _, rfl, rfl, ⟨by omega, by omega⟩, g, _, _, rfl, rfl, e6, ?_, ?_⟩
        · rw [List.length_map]
          exact small1000 (by omega)
        · refine ⟨_, rfl, .inl ⟨_, rfl, _, rfl, _, _, rfl, rfl, (by show b ≠ 0; omega), ?_⟩⟩
          refine k _ _ (Int.fmod_nonneg_of_pos _ hb0) (Int.fmod_lt_of_pos _ hb0) ⟨ms ++ [z.fdiv b], m, n + 1, ?_, ?_, ?_, hdg, by omega, by omega⟩ (kp3.upd_g _)
          · rw [upd_ne hdg]; exact e5
          · rw [upd_same, List.map_append]; rfl
          · rw [List.length_append, List.length_singleton]; exact hms
      · refine ⟨_, rfl, _, rfl, d, .int m, rfl, get_total e5, _, _, rfl, rfl, ?_⟩
        exact ⟨_, _, rfl, ⟨ms, m, n + 1, e5, e6, by omega, hdg, by omega, by omega⟩, kp3⟩
  · rintro σ H2 ⟨x, v, rfl, hD2, kp2⟩
    have hm0 : -18446744073709551616 < n + 1 := by omega
    have hm1 : n + 1 < 18446744073709551616 := by omega
    refine ⟨_, rfl, .inl ⟨_, rfl, _, _, rfl, rfl, (by show (0 : Int) < _; decide), _, rfl, _, _, rfl, rfl, .inl ⟨by decide, by decide⟩, _, rfl, _, _, rfl, rfl, .inr ⟨hm0, hm1⟩, _, _, rfl, rfl, _, _, rfl, rfl, .inl ⟨_, rfl, _, _, rfl, rfl, .inr ⟨by decide, by decide⟩, _, _, rfl, rfl, (by show (0 : Int) < _; decide), ?_⟩⟩⟩
    refine ⟨_, rfl, _, rfl, _, _, rfl, rfl, .inl ⟨?b1, ?b2⟩, ?_⟩
    case b1 => exact Int.lt_of_lt_of_le (by decide) (Int.emod_nonneg _ (by decide))
    case b2 => exact Int.lt_trans (Int.emod_lt_of_pos _ (by decide)) (by decide)
    refine ⟨_, rfl, _, _, rfl, rfl, .inl ⟨by decide, by decide⟩, _, _, rfl, rfl, _, _, rfl, rfl, .inl ⟨_, rfl, _, _, rfl, rfl, (by show (0 : Int) < _; decide), ?_⟩⟩
    refine ⟨_, rfl, _, _, rfl, rfl, .inr ⟨by decide, by decide⟩, .inl ⟨_, rfl, _, _, rfl, rfl, (by show (0 : Int) < _; decide), _, _, rfl, rfl, ⟨by decide, by decide⟩, _, rfl, _, _, rfl, rfl, (by show b ≠ 0; omega), ?_⟩⟩
    exact k _ H2 (Int.fmod_nonneg_of_pos _ hb0) (Int.fmod_lt_of_pos _ hb0) hD2 kp2
/-! ### a pick -/
theorem scPick : FnScope ["_law_deck_here", "_law_some_here"] ["_law_deck_here", "_law_some_here"] (defScope sPick) := ⟨rfl, rfl, rfl, by decide +kernel, rfl, by decide +kernel, by decide +kernel⟩
theorem ok_pick {f : Addr} {fd : FuncData} {fW : Addr} {fdW : FuncData} (F : Fun K "_law_pick" "_law_pick" sPick f fd) (FW : Fun K "_law_draw" "_law_draw" sDraw fW fdW) (bW : Binds K fdW ["_law_deck_here", "_law_many"] []) (T : TxtD mg fW) : FnOk P w K mg base CX0 2 f fd ["_law_deck_here", "_law_some_here"] (spPick K) := by
  have GW : FnOk P w K mg base CX0 1 fW fdW ["_law_deck_here", "_law_many"] spDraw := ok_draw FW T
  refine F.ok scPick (fun vs H Q E h => ?_) (fun cdv A outer s H vs Q E hr h => ?_)
  · obtain ⟨d, g, p, xs, c, rfl, _⟩ := h
    rfl
  obtain ⟨d, g, p, xs, c, rfl, hS, n1, n2, hne, hlen, hD, hc, k⟩ := h
  refine ⟨_, pss_one (ps_ret (pe_ix ix_list (pv 1) (pe_call GW hr rfl T.draw FW.kp bW .nil pass0 (pa_cons (pv 0) (pa_cons (pe_callB call_len_seq (by rfl) T.len PySem.boot_len (pa_cons (pv 1) pa_nil)) pa_nil))) (fun _ _ => rfl))), ?_⟩
  have hpos : 0 < xs.length := List.length_pos_iff.mpr hne
  refine ⟨_, rfl, _, rfl, _, rfl, p, _, rfl, .inl hS, d, g, _, c, rfl, by omega, by omega, hD, hc, fun r H' h0 h1 hD' kp => ?_⟩
  have hr : r.toNat < xs.length := by omega
  have er : r = ((r.toNat : Nat) : Int) := by omega
  have hx : atI xs r = some xs[r.toNat] := at_of er (List.getElem?_eq_getElem hr)
  exact ⟨p, _, r, _, rfl, rfl, kp.seq n1 n2 hS, hx, k _ H' (List.getElem_mem hr) hD' kp⟩
theorem ok_pickS {f : Addr} {fd : FuncData} {fW : Addr} {fdW : FuncData} (F : Fun K "_law_pick" "_law_pick" sPick f fd) (FW : Fun K "_law_draw" "_law_draw" sDraw fW fdW) (bW : Binds K fdW ["_law_deck_here", "_law_many"] []) (T : TxtD mg fW) : FnOk P w K mg base CX0 2 f fd ["_law_deck_here", "_law_some_here"] spPickS := by
  have GW : FnOk P w K mg base CX0 1 fW fdW ["_law_deck_here", "_law_many"] spDraw := ok_draw FW T
  refine F.ok scPick (fun vs H Q E h => ?_) (fun cdv A outer s H vs Q E hr h => ?_)
  · obtain ⟨d, g, z, c, rfl, _⟩ := h
    rfl
  obtain ⟨d, g, z, c, rfl, hpos, hlen, hD, hc, k⟩ := h
  refine ⟨_, pss_one (ps_ret (pe_ix ix_str (pv 1) (pe_call GW hr rfl T.draw FW.kp bW .nil pass0 (pa_cons (pv 0) (pa_cons (pe_callB call_len_str (by rfl) T.len PySem.boot_len (pa_cons (pv 1) pa_nil)) pa_nil))) (fun _ _ => rfl))), ?_⟩
  have hz : z.length ≤ sizeLine := Nat.le_trans (Nat.le_of_lt hlen) (by decide)
  refine ⟨_, rfl, _, rfl, _, rfl, _, rfl, hz, d, g, _, c, rfl, by omega, by omega, hD, hc, fun r H' h0 h1 hD' kp => ?_⟩
  have hl : z.cps.toList.length = z.length := by rw [Array.length_toList]; rfl
  have hr : r.toNat < z.cps.toList.length := by omega
  have er : r = ((r.toNat : Nat) : Int) := by omega
  have hx : atI z.cps.toList r = some z.cps.toList[r.toNat] := by
    rw [show atI z.cps.toList r = atI z.cps.toList ((r.toNat : Nat) : Int) from congrArg _ er]
    exact atI_nat (List.getElem?_eq_getElem hr)
  exact ⟨z, r, _, rfl, rfl, hz, hx, k _ H' (List.getElem_mem hr) hD' kp⟩
end
end Vf

set_option Elab.async false
set_option linter.all false
set_option maxRecDepth 100000
set_option maxHeartbeats 4000000
namespace Vf
open PySem PySem.Spec PyProof.Rows L2 L2.Vx Vs Vm
abbrev sPairs : Stmt := top 1
abbrev sPieces : Stmt := top 2
/-- what is new since H -/
def New (H : Hp) : Addr → Prop := fun a => H a = none
theorem dt_same {H H' : Hp} {S : Addr → Prop} {v : V} {D : PyData} (h : Dt H S v D) (s : Same H H') : Dt H' S v D := h.mono (fun a o _ e => s a o e) fun _ _ x _ => x
theorem dt_new {H0 H1 H : Hp} {v : V} {D : PyData} (h : Dt H (New H1) v D) (s : Same H0 H1) : Dt H (New H0) v D := h.mono (fun _ _ _ e => e) fun _ _ x _ => s.free x
/-- in_pairs: a new tuple of pairs, ascending -/
def spPairs (K : PySem.W.Frag) : Sp := fun vs H Q _ => ∃ (d : Addr) (f : Wd → Int) (ks : List Wd), vs = [.ref d] ∧ H d = some (.dK (entK (fun p => .int (f p)) ks)) ∧ ks.Nodup ∧ ks.length ≤ 4000 ∧
  ∀ v H', Same H H' → Dt H' (New H) v (pairsD f (asc ks)) → Q v H'
/-- pieces_of -/
def piecesD (k : Nat) (z : Wd) : PyData := pairsD (fun p => (often k z p : Int)) (asc (wins k z))
def spPieces (K : PySem.W.Frag) : Sp := fun vs H Q _ => ∃ (k : Nat) (z : Wd), vs = [.int k, .str (mkS z)] ∧ 1 ≤ k ∧ k ≤ 1000000 ∧ z.length ≤ 4000 ∧
  ∀ v H', Same H H' → Dt H' (New H) v (piecesD k z) → Q v H'
structure TxtP (mg : Str → Option Value) : Prop where
  tuple : mg "tuple" = none
  sorted : mg "sorted" = none
  set : mg "set" = none
  range : mg "range" = none
  len : mg "len" = none
theorem cut_win {k i : Nat} {z : Wd} (h : i < z.length + 1 - k) : cutS (mkS z) (some (i : Int)) (some ((i : Int) + k)) = mkS (win k z i) := by
  have hl : (mkS z).length = z.length := mkS_length z
  unfold cutS
  rw [hl, mkS_cps]
  have e1 : HT.sIx z.length 0 (some (i : Int)) = min i z.length := HT.sIx_nat _ _ i
  have e2 : HT.sIx z.length z.length (some ((i : Int) + k)) = min (i + k) z.length := HT.sIx_nat _ _ (i + k)
  rw [e1, e2, Nat.min_eq_left (by omega : i ≤ z.length), Nat.min_eq_left (by omega : i + k ≤ z.length), Nat.add_sub_cancel_left]
  rfl
section
variable {P : Program} {w : World} {K : PySem.W.Frag} {mg : Str → Option Value} {base : Heap}
theorem scPairs : FnScope ["numbers", "piece"] ["numbers"] (defScope sPairs) := ⟨rfl, rfl, rfl, by decide +kernel, rfl, by decide +kernel, by decide +kernel⟩
theorem scPieces : FnScope ["width", "text", "numbers", "start", "piece"] ["width", "text"] (defScope sPieces) := ⟨rfl, rfl, rfl, by decide +kernel, rfl, by decide +kernel, by decide +kernel⟩
theorem str_at {ks : List Wd} {i : Nat} {y : V} (h : ((ks.map mkS).map V.str)[i]? = some y) : ∃ p, ks[i]? = some p ∧ y = .str (mkS p) := by
  rw [List.getElem?_map, List.getElem?_map] at h
  cases e : ks[i]? with
  | none => rw [e] at h; cases h
  | some p => rw [e] at h; exact ⟨p, rfl, (Option.some.inj h).symm⟩
theorem ok_pairs {f : Addr} {fd : FuncData} (F : Fun K "in_pairs" "in_pairs" sPairs f fd) (T : TxtP mg) : FnOk P w K mg base CX0 1 f fd ["numbers"] (spPairs K) := by
  refine F.ok scPairs (fun vs H Q E h => ?_) (fun cdv A outer s H vs Q E hr h => ?_)
  · obtain ⟨d, g, ks, rfl, _⟩ := h
    rfl
  obtain ⟨d, g, ks, rfl, hd, nd, hl, q⟩ := h
  have hu := hu_of hr
  refine ⟨_, pss_one (ps_ret (pe_callTy call_tuple_of (by rfl) T.tuple (by decide +kernel) (pa_cons (pe_lc (own := [("piece", 1)]) (g := gName 1) (tt := tYes) rfl scPairs.nd
      (pi_list (pe_callB (cr_sortedTxAt (P := P) (w := w) rfl rfl rfl) (by rfl) T.sorted (by decide +kernel) (pa_cons (pe_callTy (cr_setDictAt (P := P) (w := w) rfl rfl rfl) (by rfl) T.set (by decide +kernel) (pa_cons (pv 0) pa_nil)) pa_nil)))
      (blkOk_by (N := ["numbers", "piece"]) (sc := defScope sPairs) (by decide +kernel)) (fun _ _ _ _ _ => pg_name (i := 1) scPairs.nd rfl (Or.inl rfl)) (fun _ _ _ _ _ => pts_nil)
      (fun _ _ _ _ _ => by exact pe_tup (pa_cons (pv 1) (pa_cons (pe_dget hu (pv 0) (pv 1) (fun _ _ => rfl)) pa_nil)))) pa_nil))), ?_⟩
  refine ⟨_, rfl, d, _, ks, rfl, .inl hd, nd, hl, fun p l hp hpl => ?_⟩
  have s1 := same_new hp (SetTxO P w p l)
  refine ⟨p, l, ks, rfl, upd_same, hpl, nd, hl, fun u hu' => ?_⟩
  have s2 := s1.trans (same_new hu' (.lst (((asc ks).map mkS).map .str)))
  have eu : upd (upd H p (SetTxO P w p l)) u (.lst (((asc ks).map mkS).map .str)) u = some (.lst (((asc ks).map mkS).map .str)) := upd_same
  have ed := s2 _ _ hd
  generalize upd (upd H p (SetTxO P w p l)) u (.lst (((asc ks).map mkS).map .str)) = H1 at s2 eu ed ⊢
  refine ⟨u, rfl, ⟨_, SqL.of eu⟩, fun D hD => ?_⟩
  have hD0 := s2.free hD
  have la := asc_length_le ks
  refine lc_it (walk_list (xs := ((asc ks).map mkS).map .str)) (fun i H' => ∃ vs, H' D = some (.lst vs) ∧ vs.length = i ∧ DtAll H' (fun a => H1 a = none ∧ a ≠ D) vs (((asc ks).take i).map (pairD g)) ∧ Same H1 H')
    ⟨[], upd_same, rfl, .nil, same_new hD _⟩ (fun i H' _ ⟨_, _, _, _, s⟩ => s.seq (SqL.of eu)) ?_ ?_
  · rintro i x H2 H3 hi ⟨vs, k1, k2, k3, k4⟩ ⟨rfl, hx⟩
    obtain ⟨y, hy, rfl⟩ := str_at hx
    have hyk : y ∈ ks := mem_asc.mp (List.mem_of_getElem? hy)
    refine ⟨rfl, _, rfl, _, rfl, _, rfl, d, _, rfl, get_ent (k4 _ _ ed) hyk, (by show 2 ≤ sizeLine; decide), fun t ht => ?_⟩
    have htD : t ≠ D := (ne_of_none k1 ht).symm
    have hil : i < (asc ks).length := by rw [List.length_map, List.length_map] at hi; exact hi
    have ht1 : H1 t = none := k4.free ht
    refine ⟨_, by rw [upd_ne htD.symm]; exact k1, (by rw [k2, sizeLine_eq]; omega), vs ++ [.ref t], upd_same, by rw [List.length_append, k2]; rfl, ?_, fun b o e => ?_⟩
    · rw [List.take_add_one, hy, List.map_append]
      exact dtAll_snoc k3 (fun a z => z.2) ht ⟨ht1, htD⟩ (.tup (xs := [.str (mkS y), .int (g y)]) (by rw [upd_ne htD]; exact upd_same) ⟨ht1, htD⟩ (.cons (.flat (show FlatD (.str (mkS y)) (.str (mkS y)) from rfl)) (.cons (.flat (show FlatD (.int (g y)) (.int (g y)) from rfl)) .nil)))
    · rw [upd_ne (ne_of_none e hD)]
      exact same_new ht _ _ _ (k4 b o e)
  · rintro H2 ⟨vs, k1, k2, k3, k4⟩
    rw [List.length_map, List.length_map, List.take_length] at k3
    refine ⟨D, _, rfl, .inl ⟨SqL.of k1, fun t ht => ?_⟩⟩
    have s3 := same_new ht (.tup vs)
    refine q _ _ ((s2.trans k4).trans s3) (.tup upd_same ((s2.trans k4).free ht) (k3.mono (fun a o _ e => s3 a o e) fun a o sa _ => s2.free sa.1))
theorem ok_pieces {f fA : Addr} {fd fdA : FuncData} (F : Fun K "pieces_of" "pieces_of" sPieces f fd) (T : TxtP mg)
    (GA : FnOk P w K mg base CX0 1 fA fdA ["numbers"] (spPairs K)) (bA : Binds K fdA ["numbers"] []) (kA : PySem.W.keepIn K (.ref fA) = true) (mA : mg "in_pairs" = some (.ref fA)) :
    FnOk P w K mg base CX0 2 f fd ["width", "text"] (spPieces K) := by
  refine F.ok scPieces (fun vs H Q E h => ?_) (fun cdv A outer s H vs Q E hr h => ?_)
  · obtain ⟨k, z, rfl, _⟩ := h
    rfl
  obtain ⟨k, z, rfl, hk1, hk2, hz, q⟩ := h
  have hu := hu_of hr
  refine ⟨_, pss_cons (ps_set (i := 2) scPieces.nd rfl (Or.inl rfl) pe_dnewK)
    (pss_cons (ps_for PassesOwn.never rfl (pi_range1 rfl T.range (pa_cons (pe_op op_add (pe_op op_sub (pe_callB call_len_str (by rfl) T.len PySem.boot_len (pa_cons (pv 1) pa_nil)) (pv 0)) pe_int) pa_nil)) (pg_name (i := 3) scPieces.nd rfl (Or.inl rfl))
      (pss_cons (ps_set (i := 4) scPieces.nd rfl (Or.inl rfl) (pe_slice sl_str (pv 1) (po_some (pv 3)) (po_some (pe_op op_add (pv 3) (pv 0)))))
      (pss_one (ps_dput hu (pv 2) (pv 4) (pe_op op_add (pe_dget2 hu (pv 2) (pv 4) pe_int ⟨rfl, rfl, rfl, rfl⟩) pe_int) rfl))))
    (pss_one (ps_ret (pe_call GA hr rfl mA kA bA .nil pass0 (pa_cons (pv 2) pa_nil))))), ?_⟩
  intro d hd
  have hlz : (mkS z).length = z.length := mkS_length z
  have hz16 : (mkS z).length ≤ sizeLine := by rw [hlz, sizeLine_eq]; omega
  refine ⟨_, rfl, _, rfl, hz16, _, rfl, _, _, rfl, rfl, _, _, rfl, rfl, _, rfl, by rw [hlz]; omega, by rw [hlz]; omega, ?_⟩
  have hn : ((((mkS z).length : Nat) : Int) - k + 1).toNat = z.length + 1 - k := by rw [hlz]; omega
  rw [hn]
  refine for_range (lo := 0) (n := z.length + 1 - k) (fun i σ H' => ∃ (v3 v4 : Option V) (ks : List Wd), σ = [some (.int k), some (.str (mkS z)), some (.ref d), v3, v4] ∧ ks.Nodup ∧ (∀ p, p ∈ ks ↔ p ∈ (wins k z).take i) ∧ ks.length ≤ i ∧
      H' d = some (.dK (entK (fun p => .int (upto k z p i : Nat)) ks)) ∧ Same H H') ⟨none, none, [], rfl, List.nodup_nil, fun p => by simp, Nat.le_refl _, upd_same, same_new hd _⟩ ?_ ?_
  · rintro i σ H1 hi ⟨v3, v4, ks, rfl, nd, mem, hl, hd1, s1⟩
    refine ⟨_, rfl, _, rfl, _, rfl, _, rfl, _, rfl, _, _, rfl, rfl, _, rfl, _, rfl, hz16, ?_⟩
    rw [show ((0 : Int) + (i : Nat)) = (i : Nat) from Int.zero_add _, cut_win hi]
    refine ⟨_, rfl, d, rfl, .inl ⟨_, .inl hd1⟩, _, rfl, _, DGet.k (k := kS (win k z i)) hd1, ?_⟩
    rw [getD_ent (f := fun p => V.int (upto k z p i : Nat)) (v := .int 0) fun c => by rw [upto_zero fun x => c ((mem _).mpr x)]; rfl]
    refine ⟨_, _, rfl, rfl, _, rfl, _, rfl, d, _, rfl, DPut.k (k := kS (win k z i)) hd1 (by rw [entK_length, sizeLine_eq]; omega), ?_⟩
    refine ⟨_, _, more ks (win k z i), rfl, more_nodup nd _, fun p => ?_, Nat.le_trans (more_length _ _) (Nat.succ_le_succ hl), ?_, fun b o e => ?_⟩
    · rw [mem_more, mem_take_succ hi, mem p]
    · rw [upd_same, putK_ent]
      refine congrArg (fun x => some (HO.dK x)) (entK_congr fun p _ => ?_)
      unfold at'
      by_cases c : p = win k z i
      · subst c
        rw [if_pos rfl, upto_hit hi rfl]
        rfl
      · rw [if_neg c, upto_miss hi c]
    · rw [upd_ne (ne_of_none e hd)]
      exact s1 b o e
  · rintro σ H1 ⟨v3, v4, ks, rfl, nd, mem, hl, hd1, s1⟩
    have e0 : (wins k z).take (z.length + 1 - k) = wins k z := List.take_of_length_le (by rw [wins_length]; exact Nat.le_refl _)
    rw [e0] at mem
    refine ⟨_, rfl, d, _, ks, rfl, hd1, nd, by omega, fun v H2 s2 hv => ?_⟩
    refine q v H2 (s1.trans s2) ?_
    unfold piecesD
    rw [← asc_congr mem]
    have e1 : (fun p => ((upto k z p (z.length + 1 - k) : Nat) : Int)) = fun p => ((often k z p : Nat) : Int) := funext fun p => by rw [upto_all (Nat.le_refl _)]
    rw [← e1]
    exact dt_new hv s1
end
end Vf

set_option Elab.async false
set_option linter.all false
set_option maxRecDepth 100000
set_option maxHeartbeats 4000000
namespace Vf
open PySem PySem.Spec PyProof.Rows L2 L2.Vx Vs Vm
abbrev sSummed : Stmt := top 3
abbrev sEnded : Stmt := top 4
abbrev sView : Stmt := top 5
/-! ### data taken apart -/
theorem dt_tup {H : Hp} {S : Addr → Prop} {v : V} {ds : List PyData} (h : Dt H S v (.tuple ds)) : ∃ a xs, v = .ref a ∧ H a = some (.tup xs) ∧ S a ∧ DtAll H S xs ds := by
  cases h with
  | flat e => cases v <;> exact absurd e (by intro z; cases z)
  | tup e s r => exact ⟨_, _, rfl, e, s, r⟩
theorem dt_str {H : Hp} {S : Addr → Prop} {v : V} {x : Str} (h : Dt H S v (.str x)) : v = .str x := by
  cases h with
  | flat e =>
    cases v with
    | str y => cases (show PyData.str x = .str y from e); rfl
    | _ => exact absurd e (by intro z; cases z)
theorem dt_int {H : Hp} {S : Addr → Prop} {v : V} {n : Int} (h : Dt H S v (.int n)) : v = .int n := by
  cases h with
  | flat e =>
    cases v with
    | int y => cases (show PyData.int n = .int y from e); rfl
    | _ => exact absurd e (by intro z; cases z)
theorem dtA_len {H : Hp} {S : Addr → Prop} : ∀ {vs : List V} {ds : List PyData}, DtAll H S vs ds → vs.length = ds.length
  | _, _, .nil => rfl
  | _, _, .cons _ r => congrArg (· + 1) (dtA_len r)
theorem dtA_at {H : Hp} {S : Addr → Prop} : ∀ {vs : List V} {ds : List PyData}, DtAll H S vs ds → ∀ {i : Nat} {v : V}, vs[i]? = some v → ∃ d, ds[i]? = some d ∧ Dt H S v d
  | _, _, .cons h _, 0, _, e => ⟨_, rfl, (Option.some.inj e) ▸ h⟩
  | _, _, .cons _ r, _ + 1, _, e => dtA_at r (i := _) e
theorem dtA_one {H : Hp} {S : Addr → Prop} {vs : List V} {d : PyData} {ds : List PyData} (h : DtAll H S vs (d :: ds)) : ∃ v r, vs = v :: r ∧ Dt H S v d ∧ DtAll H S r ds := by
  cases h with
  | cons a b => exact ⟨_, _, rfl, a, b⟩
theorem dtA_nil {H : Hp} {S : Addr → Prop} {vs : List V} (h : DtAll H S vs []) : vs = [] := by
  cases h
  rfl
/-- a pair of a word and a number -/
theorem dt_pair {H : Hp} {S : Addr → Prop} {v : V} {p : Wd} {n : Int} (h : Dt H S v (.tuple [.str (mkS p), .int n])) : ∃ a, v = .ref a ∧ H a = some (.tup [.str (mkS p), .int n]) := by
  obtain ⟨a, xs, rfl, e, _, r⟩ := dt_tup h
  obtain ⟨v1, r1, rfl, h1, r⟩ := dtA_one r
  obtain ⟨v2, r2, rfl, h2, r⟩ := dtA_one r
  obtain rfl := dtA_nil r
  obtain rfl := dt_str h1
  obtain rfl := dt_int h2
  exact ⟨a, rfl, e⟩
/-- a table as data -/
abbrev prD (q : Wd × Nat) : PyData := .tuple [.str (mkS q.1), .int (q.2 : Nat)]
def tabD (L : List (Wd × Nat)) : PyData := .tuple (L.map prD)
theorem pairs_tab (k : Nat) (z : Wd) : piecesD k z = tabD (tab k z) := by
  unfold piecesD tabD tab pairsD
  rw [List.map_map]
  rfl
/-! ### tables put together -/
/-- the numbers of all tables together, no more than t -/
def sumD (t : Nat) (L : List (Wd × Nat)) : PyData := pairsD (fun p => ((min t (tally p L) : Nat) : Int)) (asc (L.map (·.1)))
def spSummed : Sp := fun vs H Q _ => ∃ (a : Addr) (t : Nat) (xs : List V) (Ls : List (List (Wd × Nat))) (S : Addr → Prop), vs = [.ref a, .int t] ∧ 1 ≤ t ∧ H a = some (.lst xs) ∧ DtAll H S xs (Ls.map tabD) ∧ Ls.flatten.length ≤ 4000 ∧
  ∀ v H', Same H H' → Dt H' (New H) v (sumD t Ls.flatten) → Q v H'
def spEnded : Sp := fun vs H Q _ => ∃ (k : Nat) (z : Wd), vs = [.int k, .str (mkS z)] ∧ 1 ≤ k ∧ k ≤ z.length + 1 ∧ z.length ≤ 4000 ∧ Q (.str (mkS (z.drop (z.length + 1 - k)))) H
/-- the view of a word -/
def viewD (k t : Nat) (z : Wd) : PyData := if z.length < k then .tuple [.str "short", .str (mkS z)] else .tuple [.str "long", .str (mkS (z.take (k - 1))), .str (mkS (z.drop (z.length + 1 - k))), sumD t (tab k z)]
def spView : Sp := fun vs H Q _ => ∃ (k t : Nat) (z : Wd), vs = [.int k, .int t, .str (mkS z)] ∧ 1 ≤ k ∧ k ≤ 1000 ∧ 1 ≤ t ∧ z.length ≤ 3000 ∧ ∀ v H', Same H H' → Dt H' (New H) v (viewD k t z) → Q v H'
theorem cut_tail {z : Wd} {n : Nat} (h : n ≤ z.length) : cutS (mkS z) (some (n : Int)) none = mkS (z.drop n) := by
  unfold cutS
  rw [mkS_length, mkS_cps]
  have e1 : HT.sIx z.length 0 (some (n : Int)) = min n z.length := HT.sIx_nat _ _ n
  have e2 : HT.sIx z.length z.length none = z.length := rfl
  rw [e1, e2, Nat.min_eq_left h]
  show mkS ((z.drop n).take (z.length - n)) = _
  congr 1
  exact List.take_of_length_le (by rw [List.length_drop]; exact Nat.le_refl _)
/-- what the dict of numbers holds behind the pairs L -/
def NumAt (t : Nat) (L : List (Wd × Nat)) (H : Hp) (d : Addr) : Prop := ∃ ks : List Wd, ks.Nodup ∧ (∀ p, p ∈ ks ↔ p ∈ L.map (·.1)) ∧ ks.length ≤ L.length ∧ H d = some (.dK (entK (fun p => .int (min t (tally p L) : Nat)) ks))
theorem NumAt.next {t : Nat} {L : List (Wd × Nat)} {q : Wd × Nat} {d : Addr} {f : Wd → V} {ks : List Wd} {H : Hp} (nd : ks.Nodup) (mem : ∀ p, p ∈ ks ↔ p ∈ L.map (·.1)) (hl : ks.length ≤ L.length) (hf : f = fun p => .int (min t (tally p L) : Nat)) {n : Int} (hn : n = (min t (tally q.1 (L ++ [q])) : Nat)) :
    NumAt t (L ++ [q]) (upd H d (.dK (putK (entK f ks) (kS q.1) (.int n)))) d := by
  refine ⟨more ks q.1, more_nodup nd _, fun p => ?_, by rw [List.length_append]; exact Nat.le_trans (more_length _ _) (Nat.succ_le_succ hl), ?_⟩
  · rw [mem_more, mem p, List.map_append, List.mem_append]
    simp
  · rw [upd_same, putK_ent]
    refine congrArg (fun x => some (HO.dK x)) (entK_congr fun p _ => ?_)
    unfold at'
    by_cases c : p = q.1
    · rw [if_pos c, hn, c]
    · rw [if_neg c, hf, tally_app]
      have e : tally p [q] = 0 := tally_zero (by simpa using c)
      rw [e, Nat.add_zero]
section
variable {P : Program} {w : World} {K : PySem.W.Frag} {mg : Str → Option Value} {base : Heap}
abbrev nSummed : List Str := ["tables", "top", "numbers", "pairs", "piece", "number", "total"]
theorem scSummed : FnScope nSummed ["tables", "top"] (defScope sSummed) := ⟨rfl, rfl, rfl, by decide +kernel, rfl, by decide +kernel, by decide +kernel⟩
theorem scEnded : FnScope ["width", "text"] ["width", "text"] (defScope sEnded) := ⟨rfl, rfl, rfl, by decide +kernel, rfl, by decide +kernel, by decide +kernel⟩
theorem scView : FnScope ["width", "top", "text"] ["width", "top", "text"] (defScope sView) := ⟨rfl, rfl, rfl, by decide +kernel, rfl, by decide +kernel, by decide +kernel⟩
theorem ok_ended {f : Addr} {fd : FuncData} (F : Fun K "ended_with" "ended_with" sEnded f fd) (T : TxtP mg) : FnOk P w K mg base CX0 1 f fd ["width", "text"] spEnded := by
  refine F.ok scEnded (fun vs H Q E h => ?_) (fun cdv A outer s H vs Q E hr h => ?_)
  · obtain ⟨k, z, rfl, _⟩ := h
    rfl
  obtain ⟨k, z, rfl, hk1, hk2, hz, q⟩ := h
  refine ⟨_, pss_one (ps_ret (pe_slice sl_str (pv 1) (po_some (pe_op op_add (pe_op op_sub (pe_callB call_len_str (by rfl) T.len PySem.boot_len (pa_cons (pv 1) pa_nil)) (pv 0)) pe_int)) po_none)), ?_⟩
  have hlz : (mkS z).length = z.length := mkS_length z
  have hz16 : (mkS z).length ≤ sizeLine := by rw [hlz, sizeLine_eq]; omega
  refine ⟨_, rfl, _, rfl, _, rfl, hz16, _, rfl, _, _, rfl, rfl, _, _, rfl, rfl, _, rfl, _, rfl, hz16, ?_⟩
  have e : (((mkS z).length : Nat) : Int) - k + 1 = ((z.length + 1 - k : Nat) : Int) := by rw [hlz]; omega
  rw [e, cut_tail (by omega)]
  exact q
theorem ok_summed {f fA : Addr} {fd fdA : FuncData} (F : Fun K "summed" "summed" sSummed f fd)
    (GA : FnOk P w K mg base CX0 1 fA fdA ["numbers"] (spPairs K)) (bA : Binds K fdA ["numbers"] []) (kA : PySem.W.keepIn K (.ref fA) = true) (mA : mg "in_pairs" = some (.ref fA)) :
    FnOk P w K mg base CX0 2 f fd ["tables", "top"] spSummed := by
  refine F.ok scSummed (fun vs H Q E h => ?_) (fun cdv A outer s H vs Q E hr h => ?_)
  · obtain ⟨a, t, xs, Ls, S, rfl, _⟩ := h
    rfl
  obtain ⟨a, t, xs, Ls, S, rfl, ht, ha, hxs, hl4, q⟩ := h
  have hu := hu_of hr
  refine ⟨_, pss_cons (ps_set (i := 2) scSummed.nd rfl (Or.inl rfl) pe_dnewK)
    (pss_cons (ps_for PassesOwn.never rfl (pi_list (pv 0)) (pg_name (i := 3) scSummed.nd rfl (Or.inl rfl))
      (pss_one (ps_for PassesOwn.never rfl (pi_tup (pv 3)) (pg_tup rfl (pgs_cons (pg_name (i := 4) scSummed.nd rfl (Or.inl rfl)) (pgs_cons (pg_name (i := 5) scSummed.nd rfl (Or.inl rfl)) pgs_nil)))
        (pss_cons (ps_set (i := 6) scSummed.nd rfl (Or.inl rfl) (pe_op op_add (pe_dget2 hu (pv 2) (pv 4) pe_int ⟨rfl, rfl, rfl, rfl⟩) (pv 5)))
        (pss_one (ps_dput hu (pv 2) (pv 4) (pe_ifExp (pt_cmpR op_lt (pv 6) (pv 1) (nomark _)) (pv 6) (pv 1)) rfl))))))
    (pss_one (ps_ret (pe_call GA hr rfl mA kA bA .nil pass0 (pa_cons (pv 2) pa_nil))))), ?_⟩
  intro d hd
  have hxl := dtA_len hxs
  rw [List.length_map] at hxl
  have s0 := same_new hd (.dK [])
  refine ⟨_, rfl, a, rfl, ⟨xs, SqL.of (s0 _ _ ha)⟩, for_list (K := K) (a := a) (xs := xs) (fun i σ H' => ∃ v3 v4 v5 v6, σ = [some (.ref a), some (.int t), some (.ref d), v3, v4, v5, v6] ∧ NumAt t (Ls.take i).flatten H' d ∧ Same H H')
    ⟨none, none, none, none, rfl, ⟨[], List.nodup_nil, (fun p => by simp), Nat.le_refl _, upd_same⟩, s0⟩ (fun i σ H' _ ⟨_, _, _, _, _, _, s⟩ => SqL.of (s _ _ ha)) ?_ ?_⟩
  · rintro i y σ H1 hi ⟨v3, v4, v5, v6, rfl, hN, s1⟩
    obtain ⟨D, hD, dy⟩ := dtA_at hxs hi
    rw [List.getElem?_map] at hD
    obtain ⟨L, hL, rfl⟩ := Option.map_eq_some_iff.mp hD
    obtain ⟨b, ys, rfl, hb, _, hys⟩ := dt_tup dy
    have hyl := dtA_len hys
    rw [List.length_map] at hyl
    have eT : (Ls.take (i + 1)).flatten = (Ls.take i).flatten ++ L := by
      rw [List.take_add_one, hL, List.flatten_append]
      simp
    have lenL : (Ls.take i).flatten.length + L.length ≤ 4000 := by
      have e2 : Ls.flatten = (Ls.take (i + 1)).flatten ++ (Ls.drop (i + 1)).flatten := by rw [← List.flatten_append, List.take_append_drop]
      rw [e2, eT, List.length_append, List.length_append] at hl4
      omega
    refine ⟨_, rfl, b, rfl, ⟨ys, SqT.of (s1 _ _ hb)⟩, for_tup (K := K) (a := b) (xs := ys) (fun j σ H' => ∃ v4 v5 v6, σ = [some (.ref a), some (.int t), some (.ref d), some (.ref b), v4, v5, v6] ∧ NumAt t ((Ls.take i).flatten ++ L.take j) H' d ∧ Same H H')
      ⟨v4, v5, v6, rfl, by rw [List.take_zero, List.append_nil]; exact hN, s1⟩ (fun j σ H' _ ⟨_, _, _, _, _, s⟩ => SqT.of (s _ _ hb)) ?_ ?_⟩
    · rintro j y σ H2 hj ⟨u4, u5, u6, rfl, ⟨ks, nd, mem, hl, hd2⟩, s2⟩
      obtain ⟨D, hD, dy⟩ := dtA_at hys hj
      rw [List.getElem?_map] at hD
      obtain ⟨qq, hq, rfl⟩ := Option.map_eq_some_iff.mp hD
      obtain ⟨p, n⟩ := qq
      obtain ⟨e, rfl, he⟩ := dt_pair dy
      have hjl : j < L.length := (List.getElem?_eq_some_iff.mp hq).1
      have lj : ((Ls.take i).flatten ++ L.take j).length ≤ 4000 := by
        rw [List.length_append, List.length_take]
        omega
      have eN : (Ls.take i).flatten ++ L.take (j + 1) = ((Ls.take i).flatten ++ L.take j) ++ [(p, n)] := by
        rw [List.take_add_one, hq, List.append_assoc]
        rfl
      rw [eN]
      generalize (Ls.take i).flatten ++ L.take j = M at mem hl hd2 lj ⊢
      refine ⟨e, _, rfl, SqT.of (s2 _ _ he), rfl, _, _, rfl, _, _, rfl, rfl, ?_⟩
      refine ⟨_, rfl, d, rfl, .inl ⟨_, .inl hd2⟩, _, rfl, _, DGet.k (k := kS p) hd2, ?_⟩
      have hg : (valV (entK (fun p => V.int (min t (tally p M) : Nat)) ks) (kS p)).getD (.int 0) = .int (min t (tally p M) : Nat) := getD_ent (f := fun p => V.int (min t (tally p M) : Nat)) fun c => by
        rw [tally_zero fun x => c ((mem _).mpr x), Nat.min_zero]
        rfl
      rw [hg]
      have hT : tally p (M ++ [(p, n)]) = tally p M + n := by
        rw [tally_app]
        show tally p M + ((if p = p then n else 0) + 0) = _
        rw [if_pos rfl]
        rfl
      refine ⟨_, rfl, _, _, rfl, rfl, _, rfl, _, rfl, _, _, rfl, rfl, _, rfl, ?_⟩
      have fin : ∀ m : Int, m = (min t (tally p (M ++ [(p, n)])) : Nat) → ∃ v4 v5 v6, [some (V.ref a), some (V.int t), some (V.ref d), some (V.ref b), some (V.str (mkS p)), some (V.int n), some (V.int ((min t (tally p M) : Nat) + n))] = [some (V.ref a), some (V.int t), some (V.ref d), some (V.ref b), v4, v5, v6] ∧
          NumAt t (M ++ [(p, n)]) (upd H2 d (.dK (putK (entK (fun p => V.int (min t (tally p M) : Nat)) ks) (kS p) (.int m)))) d ∧ Same H (upd H2 d (.dK (putK (entK (fun p => V.int (min t (tally p M) : Nat)) ks) (kS p) (.int m)))) := fun m hm => by
        refine ⟨_, _, _, rfl, NumAt.next (q := (p, n)) nd mem hl rfl hm, fun b' o e' => ?_⟩
        rw [upd_ne (ne_of_none e' hd)]
        exact s2 b' o e'
      refine ite2 (fun c => ?_) (fun c => ?_)
      · have c' := of_decide_eq_true c
        exact ⟨_, rfl, _, rfl, _, rfl, d, _, rfl, DPut.k (k := kS p) hd2 (by rw [entK_length, sizeLine_eq]; omega), fin _ (by rw [hT]; omega)⟩
      · have c' : ¬ _ := fun z => c (decide_eq_true z)
        exact ⟨_, rfl, _, rfl, _, rfl, d, _, rfl, DPut.k (k := kS p) hd2 (by rw [entK_length, sizeLine_eq]; omega), fin _ (by rw [hT]; omega)⟩
    · rintro σ H2 ⟨u4, u5, u6, rfl, hN2, s2⟩
      rw [hyl, List.take_length, ← eT] at hN2
      exact ⟨_, _, _, _, rfl, hN2, s2⟩
  · rintro σ H1 ⟨v3, v4, v5, v6, rfl, ⟨ks, nd, mem, hl, hd1⟩, s1⟩
    rw [hxl, List.take_length] at mem hl hd1
    refine ⟨_, rfl, d, _, ks, rfl, hd1, nd, by omega, fun v H2 s2 hv => ?_⟩
    refine q v H2 (s1.trans s2) ?_
    unfold sumD
    rw [← asc_congr mem]
    exact dt_new hv s1
end
end Vf

set_option Elab.async false
set_option linter.all false
set_option maxRecDepth 100000
set_option maxHeartbeats 4000000
namespace Vf
open PySem PySem.Spec PyProof.Rows L2 L2.Vx Vs Vm
/-! ### views, by their numbers -/
theorem sum_ext {t : Nat} {L L' : List (Wd × Nat)} (hk : ∀ p, p ∈ L.map (·.1) ↔ p ∈ L'.map (·.1)) (hv : ∀ p, min t (tally p L) = min t (tally p L')) : sumD t L = sumD t L' := by
  unfold sumD
  rw [asc_congr hk]
  refine congrArg (fun f => pairsD f _) (funext fun p => ?_)
  rw [hv p]
/-- the table of the cut numbers -/
def tabT (t : Nat) (L : List (Wd × Nat)) : List (Wd × Nat) := (asc (L.map (·.1))).map fun p => (p, min t (tally p L))
theorem sum_tab (t : Nat) (L : List (Wd × Nat)) : sumD t L = tabD (tabT t L) := by
  unfold sumD tabD tabT pairsD
  rw [List.map_map]
  rfl
theorem tabT_keys (t : Nat) (L : List (Wd × Nat)) : (tabT t L).map (·.1) = asc (L.map (·.1)) := by
  unfold tabT
  rw [List.map_map]
  exact List.map_id _
theorem tally_tabT (t : Nat) (L : List (Wd × Nat)) (p : Wd) : tally p (tabT t L) = min t (tally p L) := by
  unfold tabT
  rw [tally_map (up_nodup (up_asc _))]
  split
  · rfl
  · rename_i h
    rw [tally_zero fun x => h (mem_asc.mpr x), Nat.min_zero]
theorem tabT_length (t : Nat) (L : List (Wd × Nat)) : (tabT t L).length ≤ L.length := by
  unfold tabT
  rw [List.length_map]
  exact Nat.le_trans (asc_length_le _) (Nat.le_of_eq (List.length_map _))
theorem mkS_append (a b : Wd) : mkS a ++ mkS b = mkS (a ++ b) := by
  rw [← mkS_of (mkS a ++ mkS b)]
  congr 1
  show ((mkS a).cps ++ (mkS b).cps).toList = _
  rw [Array.toList_append, mkS_cps, mkS_cps]
theorem view_short {k t : Nat} {z : Wd} (h : z.length < k) : viewD k t z = .tuple [.str "short", .str (mkS z)] := if_pos h
theorem view_long {k t : Nat} {z : Wd} (h : ¬ z.length < k) : viewD k t z = .tuple [.str "long", .str (mkS (z.take (k - 1))), .str (mkS (z.drop (z.length + 1 - k))), sumD t (tab k z)] := if_neg h
theorem cnt_eq (k t : Nat) (z : Wd) : sumD t (tab k z) = pairsD (fun p => ((min t (often k z p) : Nat) : Int)) (asc (wins k z)) := by
  unfold sumD
  rw [tab_keys, asc_asc]
  exact congrArg (fun f => pairsD f _) (funext fun p => by rw [tally_tab])
theorem short_ne_long : decide (V.str "long" = V.str "short") = false := by decide +kernel
section
variable {P : Program} {w : World} {K : PySem.W.Frag} {mg : Str → Option Value} {base : Heap}
theorem ok_view {f fC fE fS : Addr} {fd fdC fdE fdS : FuncData} (F : Fun K "view_of" "view_of" sView f fd) (T : TxtP mg)
    (GC : FnOk P w K mg base CX0 2 fC fdC ["width", "text"] (spPieces K)) (bC : Binds K fdC ["width", "text"] []) (kC : PySem.W.keepIn K (.ref fC) = true) (mC : mg "pieces_of" = some (.ref fC))
    (GE : FnOk P w K mg base CX0 1 fE fdE ["width", "text"] spEnded) (bE : Binds K fdE ["width", "text"] []) (kE : PySem.W.keepIn K (.ref fE) = true) (mE : mg "ended_with" = some (.ref fE))
    (GS : FnOk P w K mg base CX0 2 fS fdS ["tables", "top"] spSummed) (bS : Binds K fdS ["tables", "top"] []) (kS' : PySem.W.keepIn K (.ref fS) = true) (mS : mg "summed" = some (.ref fS)) :
    FnOk P w K mg base CX0 3 f fd ["width", "top", "text"] spView := by
  refine F.ok scView (fun vs H Q E h => ?_) (fun cdv A outer s H vs Q E hr h => ?_)
  · obtain ⟨k, t, z, rfl, _⟩ := h
    rfl
  obtain ⟨k, t, z, rfl, hk1, hk2, ht, hz, q⟩ := h
  have hr1 : Room 1 _ := hr.mono (by decide)
  refine ⟨_, pss_cons (ps_if (pt_cmpR op_lt (pe_callB call_len_str (by rfl) T.len PySem.boot_len (pa_cons (pv 2) pa_nil)) (pv 0) (nomark _)) (pss_one (ps_ret (pe_tup (pa_cons pe_str (pa_cons (pv 2) pa_nil))))) pss_nil)
    (pss_one (ps_ret (pe_tup (pa_cons pe_str (pa_cons (pe_slice sl_str (pv 2) po_none (po_some (pe_op op_sub (pv 0) pe_int))) (pa_cons (pe_call GE hr1 rfl mE kE bE .nil pass0 (pa_cons (pv 0) (pa_cons (pv 2) pa_nil)))
      (pa_cons (pe_call GS hr rfl mS kS' bS .nil pass0 (pa_cons (pe_lst (pa_cons (pe_call GC hr rfl mC kC bC .nil pass0 (pa_cons (pv 0) (pa_cons (pv 2) pa_nil))) pa_nil)) (pa_cons (pv 1) pa_nil))) pa_nil))))))), ?_⟩
  have hlz : (mkS z).length = z.length := mkS_length z
  have hz16 : (mkS z).length ≤ sizeLine := by rw [hlz, sizeLine_eq]; omega
  refine ⟨_, rfl, _, rfl, hz16, _, rfl, _, _, rfl, rfl, _, rfl, ?_⟩
  refine ite2 (fun c => ?_) (fun c => ?_)
  · have c' : z.length < k := by have := of_decide_eq_true c; rw [hlz] at this; omega
    refine ⟨_, rfl, (by show 2 ≤ sizeLine; decide), fun u hu => q _ _ (same_new hu _) ?_⟩
    rw [view_short c']
    exact .tup upd_same hu (.cons (.flat (show FlatD (.str "short") (.str "short") from rfl)) (.cons (.flat (show FlatD (.str (mkS z)) (.str (mkS z)) from rfl)) .nil))
  · have c' : ¬ z.length < k := fun x => c (decide_eq_true (by rw [hlz]; omega))
    refine ⟨_, rfl, _, rfl, _, _, rfl, rfl, _, rfl, _, rfl, hz16, ?_⟩
    have e1 : (k : Int) - 1 = ((k - 1 : Nat) : Int) := by omega
    rw [e1, cut_head]
    refine ⟨_, rfl, _, rfl, k, z, rfl, hk1, by omega, by omega, ?_⟩
    refine ⟨_, rfl, _, rfl, k, z, rfl, hk1, by omega, by omega, fun v1 H1 s1 hv1 => ⟨(by show 1 ≤ sizeLine; decide), fun l hl => ?_⟩⟩
    have s2 := same_new hl (.lst [v1])
    have dv : DtAll (upd H1 l (.lst [v1])) (New H) [v1] ([tab k z].map tabD) := by
      rw [pairs_tab] at hv1
      exact .cons (dt_same hv1 s2) .nil
    have fl : [tab k z].flatten = tab k z := by simp
    have ll := tab_length k z
    refine ⟨_, rfl, l, t, [v1], [tab k z], New H, rfl, ht, upd_same, dv, by rw [fl]; omega, fun v2 H2 s3 hv2 => ⟨(by show 4 ≤ sizeLine; decide), fun u hu => ?_⟩⟩
    rw [fl] at hv2
    have s4 := (s1.trans s2).trans s3
    have s5 := same_new hu (.tup [.str "long", .str (mkS (z.take (k - 1))), .str (mkS (z.drop (z.length + 1 - k))), v2])
    refine q _ _ (s4.trans s5) ?_
    rw [view_long c']
    exact .tup upd_same (s4.free hu) (.cons (.flat (show FlatD (.str "long") (.str "long") from rfl)) (.cons (.flat (show FlatD (.str (mkS (z.take (k - 1)))) (.str (mkS (z.take (k - 1)))) from rfl)) (.cons (.flat (show FlatD (.str (mkS (z.drop (z.length + 1 - k)))) (.str (mkS (z.drop (z.length + 1 - k)))) from rfl))
      (.cons (dt_same (dt_new hv2 (s1.trans s2)) s5) .nil))))
end
end Vf

set_option Elab.async false
set_option linter.all false
set_option maxRecDepth 100000
set_option maxHeartbeats 4000000
namespace Vf
open PySem PySem.Spec PyProof.Rows L2 L2.Vx Vs Vm
abbrev sAcc : Stmt := top 7
/-! ### judges, and what they accept -/
def wordsD (L : List Wd) : PyData := .tuple (L.map fun z => .str (mkS z))
def judgeD (k : Nat) (S F L P : List Wd) : PyData := .tuple [.int k, wordsD S, wordsD F, wordsD L, wordsD P]
def acc (k : Nat) (S F L P : List Wd) (z : Wd) : Bool := if z.length < k then decide (z ∈ S) else decide (z.take (k - 1) ∈ F) && (decide (z.drop (z.length + 1 - k) ∈ L) && (wins k z).all fun p => decide (p ∈ P))
theorem dt_words {H : Hp} {S : Addr → Prop} {v : V} {L : List Wd} (h : Dt H S v (wordsD L)) : ∃ a, v = .ref a ∧ S a ∧ H a = some (.tup ((L.map mkS).map .str)) := by
  obtain ⟨a, xs, rfl, e, s, r⟩ := dt_tup h
  refine ⟨a, rfl, s, ?_⟩
  have : ∀ {L : List Wd} {xs : List V}, DtAll H S xs (L.map fun z => .str (mkS z)) → xs = (L.map mkS).map .str := by
    intro L
    induction L with
    | nil => intro xs h; exact dtA_nil h
    | cons z L ih =>
      intro xs h
      obtain ⟨v, r, rfl, h1, h2⟩ := dtA_one h
      rw [dt_str h1, ih h2]
      rfl
  rw [e, this r]
/-- the parts of a judge -/
theorem dt_judge {H : Hp} {Sx : Addr → Prop} {v : V} {k : Nat} {S F L P : List Wd} (h : Dt H Sx v (judgeD k S F L P)) : ∃ a s f l p, v = .ref a ∧ H a = some (.tup [.int k, .ref s, .ref f, .ref l, .ref p]) ∧ Sx a ∧
    H s = some (.tup ((S.map mkS).map .str)) ∧ H f = some (.tup ((F.map mkS).map .str)) ∧ H l = some (.tup ((L.map mkS).map .str)) ∧ H p = some (.tup ((P.map mkS).map .str)) := by
  obtain ⟨a, xs, rfl, e, s, r⟩ := dt_tup h
  obtain ⟨v1, r1, rfl, h1, r⟩ := dtA_one r
  obtain ⟨v2, r2, rfl, h2, r⟩ := dtA_one r
  obtain ⟨v3, r3, rfl, h3, r⟩ := dtA_one r
  obtain ⟨v4, r4, rfl, h4, r⟩ := dtA_one r
  obtain ⟨v5, r5, rfl, h5, r⟩ := dtA_one r
  obtain rfl := dtA_nil r
  obtain rfl := dt_int h1
  obtain ⟨s2, rfl, _, e2⟩ := dt_words h2
  obtain ⟨s3, rfl, _, e3⟩ := dt_words h3
  obtain ⟨s4, rfl, _, e4⟩ := dt_words h4
  obtain ⟨s5, rfl, _, e5⟩ := dt_words h5
  exact ⟨a, s2, s3, s4, s5, rfl, e, s, e2, e3, e4, e5⟩
theorem inV_word {z : Wd} {L : List Wd} : inV (.str (mkS z)) ((L.map mkS).map V.str) = decide (z ∈ L) := by
  unfold inV
  rw [Bool.eq_iff_iff, List.any_eq_true, decide_eq_true_iff]
  constructor
  · rintro ⟨x, hx, e⟩
    rw [List.map_map] at hx
    obtain ⟨y, hy, rfl⟩ := List.mem_map.mp hx
    have e2 : (mkS y == mkS z) = true := e
    rw [← mkS_inj (eq_of_beq e2)]
    exact hy
  · intro h
    refine ⟨.str (mkS z), ?_, ?_⟩
    · rw [List.map_map]
      exact List.mem_map_of_mem h
    · show (mkS z == mkS z) = true
      exact beq_self_eq_true _
theorem flat_words (L : List Wd) : ((L.map mkS).map V.str).all flatV = true := by
  rw [List.all_eq_true]
  intro x hx
  rw [List.map_map] at hx
  obtain ⟨y, hy, rfl⟩ := List.mem_map.mp hx
  rfl
theorem ixT_at {K : PySem.W.Frag} {X : Cx} (e : X.K = K) : IxR X (rIxT K) := e ▸ ix_tup
theorem inq_at {K : PySem.W.Frag} {X : Cx} (e : X.K = K) : OpR X (compareOp .In) (rIn K false) := e ▸ op_in_seq
theorem ninq_at {K : PySem.W.Frag} {X : Cx} (e : X.K = K) : OpR X (compareOp .NotIn) (rIn K true) := e ▸ op_notIn_seq
def spAcc : Sp := fun vs H Q _ => ∃ (v : V) (k : Nat) (S F L P : List Wd) (z : Wd) (Sx : Addr → Prop), vs = [v, .str (mkS z)] ∧ Dt H Sx v (judgeD k S F L P) ∧ 1 ≤ k ∧ k ≤ 1000 ∧ z.length ≤ 3000 ∧ P.length ≤ 4000 ∧ ∀ H', Same H H' → Q (.bl (acc k S F L P z)) H'
theorem sum_keys {k t : Nat} {z : Wd} : ∃ f : Wd → Int, sumD t (tab k z) = pairsD f (asc (wins k z)) := ⟨_, cnt_eq k t z⟩
section
variable {P : Program} {w : World} {K : PySem.W.Frag} {mg : Str → Option Value} {base : Heap}
abbrev nAcc : List Str := ["judge", "text", "width", "short", "firsts", "lasts", "pieces", "known", "_", "first", "last", "pairs", "piece", "pair"]
theorem scAcc : FnScope nAcc ["judge", "text"] (defScope sAcc) := ⟨rfl, rfl, rfl, by decide +kernel, rfl, by decide +kernel, by decide +kernel⟩
theorem ok_acc {f fV : Addr} {fd fdV : FuncData} (F : Fun K "accepts" "accepts" sAcc f fd) (hlen : mg "len" = none) (hall : mg "all" = none)
    (GV : FnOk P w K mg base CX0 3 fV fdV ["width", "top", "text"] spView) (bV : Binds K fdV ["width", "top", "text"] []) (kV : PySem.W.keepIn K (.ref fV) = true) (mV : mg "view_of" = some (.ref fV)) :
    FnOk P w K mg base CX0 4 f fd ["judge", "text"] spAcc := by
  refine F.ok scAcc (fun vs H Q E h => ?_) (fun cdv A outer s H vs Q E hr h => ?_)
  · obtain ⟨v, k, S, F, L, P, z, Sx, rfl, _⟩ := h
    rfl
  obtain ⟨v, k, S, Fi, L, Pc, z, Sx, rfl, hJ, hk1, hk2, hz, hP, q⟩ := h
  have hu := hu_of hr
  refine ⟨_, pss_cons (ps_asg (pv 0) (pg_tup rfl (pgs_cons (pg_name (i := 2) scAcc.nd rfl (Or.inl rfl)) (pgs_cons (pg_name (i := 3) scAcc.nd rfl (Or.inl rfl)) (pgs_cons (pg_name (i := 4) scAcc.nd rfl (Or.inl rfl)) (pgs_cons (pg_name (i := 5) scAcc.nd rfl (Or.inl rfl)) (pgs_cons (pg_name (i := 6) scAcc.nd rfl (Or.inl rfl)) pgs_nil)))))))
    (pss_cons (ps_if (pt_cmpR op_lt (pe_callB call_len_str (by rfl) hlen PySem.boot_len (pa_cons (pv 1) pa_nil)) (pv 2) (nomark _)) (pss_one (ps_ret (pe_cmpR op_in_seq (pv 1) (pv 3) (by rfl)))) pss_nil)
    (pss_cons (ps_set (i := 7) scAcc.nd rfl (Or.inr rfl) (pe_dc (own := [("piece", 12)]) (g := gName 12) (tt := tYes) rfl scAcc.nd (pi_tup (pv 6)) (blkOk_by (N := nAcc) (sc := defScope sAcc) (by decide +kernel)) (fun _ _ _ _ _ => pg_name (i := 12) scAcc.nd rfl (Or.inl rfl)) (fun _ _ _ _ _ => pts_nil)
        (fun _ _ _ _ _ => by exact pv 12) (fun _ _ _ _ _ => by exact pe_bl)))
    (pss_cons (ps_asg (pe_call GV hr rfl mV kV bV .nil pass0 (pa_cons (pv 2) (pa_cons pe_int (pa_cons (pv 1) pa_nil)))) (pg_tup rfl (pgs_cons (pg_name (i := 8) scAcc.nd rfl (Or.inl rfl)) (pgs_cons (pg_name (i := 9) scAcc.nd rfl (Or.inl rfl)) (pgs_cons (pg_name (i := 10) scAcc.nd rfl (Or.inl rfl)) (pgs_cons (pg_name (i := 11) scAcc.nd rfl (Or.inl rfl)) pgs_nil))))))
    (pss_one (ps_ret (pe_and (pe_cmpR op_in_seq (pv 9) (pv 4) (by rfl)) (pe_and (pe_cmpR op_in_seq (pv 10) (pv 5) (by rfl))
      (pe_one (pe_callB (cr_all rfl) (by rfl) hall (by decide +kernel) (pa_cons (pe_lc (own := [("pair", 13)]) (g := gName 13) (tt := tYes) rfl scAcc.nd (pi_tup (pv 11)) (blkOk_by (N := nAcc) (sc := defScope sAcc) (by decide +kernel)) (fun _ _ _ _ _ => pg_name (i := 13) scAcc.nd rfl (Or.inl rfl)) (fun _ _ _ _ _ => pts_nil)
        (fun _ _ _ _ _ => by exact pe_cmp (pc_din hu (pe_ix (ixT_at rfl) (pv 13) pe_int (fun _ _ => rfl)) (pv 7)))) pa_nil)))))))))), ?_⟩
  obtain ⟨a, a2, a3, a4, a5, rfl, e1, _, e2, e3, e4, e5⟩ := dt_judge hJ
  refine ⟨_, rfl, a, _, rfl, SqT.of e1, rfl, _, _, rfl, _, _, rfl, _, _, rfl, _, _, rfl, _, _, rfl, rfl, ?_⟩
  have hlz : (mkS z).length = z.length := mkS_length z
  have hz16 : (mkS z).length ≤ sizeLine := by rw [hlz, sizeLine_eq]; omega
  refine ⟨_, rfl, _, rfl, hz16, _, rfl, _, _, rfl, rfl, _, rfl, ?_⟩
  refine ite2 (fun c => ?_) (fun c => ?_)
  · have c' : z.length < k := by have := of_decide_eq_true c; rw [hlz] at this; omega
    refine ⟨_, rfl, _, rfl, a2, _, rfl, .inr (SqT.of e2), rfl, flat_words S, ?_⟩
    have e := q H (fun _ _ e => e)
    unfold acc at e
    rw [if_pos c', ← inV_word] at e
    exact e
  have c' : ¬ z.length < k := fun x => c (decide_eq_true (by rw [hlz]; omega))
  have eacc : acc k S Fi L Pc z = (decide (z.take (k - 1) ∈ Fi) && (decide (z.drop (z.length + 1 - k) ∈ L) && (wins k z).all fun p => decide (p ∈ Pc))) := by
    unfold acc
    rw [if_neg c']
  refine ⟨_, rfl, a5, rfl, ⟨_, SqT.of e5⟩, fun D hD => ?_⟩
  have s0 := same_new hD (.dK [])
  refine dc_tup (xs := (Pc.map mkS).map V.str) (fun i H' => ∃ ks : List Wd, (∀ x, x ∈ ks ↔ x ∈ Pc.take i) ∧ ks.length ≤ i ∧ H' D = some (.dK (entK (fun _ => .bl true) ks)) ∧ Same H H') ⟨[], (fun x => by simp), Nat.le_refl _, upd_same, s0⟩ (fun i H' _ ⟨_, _, _, _, s⟩ => SqT.of (s _ _ e5)) ?_ ?_
  · rintro i x H1 hi ⟨ks, m1, m2, m3, s1⟩
    obtain ⟨p, hp, rfl⟩ := str_at hi
    have hil : i < Pc.length := (List.getElem?_eq_some_iff.mp hp).1
    refine ⟨rfl, _, rfl, _, kS p, rfl, m3, by rw [entK_length, sizeLine_eq]; omega, more ks p, fun x => ?_, Nat.le_trans (more_length _ _) (Nat.succ_le_succ m2), ?_, fun b o e => ?_⟩
    · rw [mem_more, m1 x, List.take_add_one, hp, List.mem_append]
      simp
    · rw [upd_same, putK_ent]
      refine congrArg (fun x => some (HO.dK x)) (entK_congr fun p _ => ?_)
      unfold at'
      split <;> rfl
    · rw [upd_ne (ne_of_none e hD)]
      exact s1 b o e
  rintro H1 ⟨ks, m1, m2, m3, s1⟩
  rw [List.length_map, List.length_map, List.take_length] at m1
  refine ⟨_, rfl, _, rfl, k, 1, z, rfl, hk1, hk2, by decide, hz, fun vv H2 s2 hv => ?_⟩
  rw [view_long c', cnt_eq] at hv
  obtain ⟨b, ys, rfl, eb, _, r⟩ := dt_tup hv
  obtain ⟨v1, r1, rfl, h1, r⟩ := dtA_one r
  obtain ⟨v2, r2, rfl, h2, r⟩ := dtA_one r
  obtain ⟨v3, r3, rfl, h3, r⟩ := dtA_one r
  obtain ⟨v4, r4, rfl, h4, r⟩ := dtA_one r
  obtain rfl := dtA_nil r
  obtain rfl := dt_str h1
  obtain rfl := dt_str h2
  obtain rfl := dt_str h3
  obtain ⟨c4, us, rfl, e6, _, r⟩ := dt_tup h4
  refine ⟨b, _, rfl, SqT.of eb, rfl, _, _, rfl, _, _, rfl, _, _, rfl, _, _, rfl, rfl, ?_⟩
  have s12 := s1.trans s2
  refine ⟨_, rfl, _, rfl, a3, _, rfl, .inr (SqT.of (s12 _ _ e3)), rfl, flat_words Fi, _, rfl, ?_⟩
  refine ite2 (fun e => ?_) (fun e => ?_)
  rotate_left
  · have f1 : decide (z.take (k - 1) ∈ Fi) = false := by
      have e' : ¬ inV (V.str (mkS (z.take (k - 1)))) ((Fi.map mkS).map V.str) = true := e
      rw [inV_word] at e'
      exact Bool.eq_false_iff.mpr e'
    have g := q H2 s12
    rw [eacc, f1] at g
    exact g
  have f1 : decide (z.take (k - 1) ∈ Fi) = true := by
    have e' : inV (V.str (mkS (z.take (k - 1)))) ((Fi.map mkS).map V.str) = true := e
    rw [inV_word] at e'
    exact e'
  refine ⟨_, rfl, _, rfl, a4, _, rfl, .inr (SqT.of (s12 _ _ e4)), rfl, flat_words L, _, rfl, ?_⟩
  refine ite2 (fun e => ?_) (fun e => ?_)
  rotate_left
  · have f2 : decide (z.drop (z.length + 1 - k) ∈ L) = false := by
      have e' : ¬ inV (V.str (mkS (z.drop (z.length + 1 - k)))) ((L.map mkS).map V.str) = true := e
      rw [inV_word] at e'
      exact Bool.eq_false_iff.mpr e'
    have g := q H2 s12
    rw [eacc, f1, f2] at g
    exact g
  have f2 : decide (z.drop (z.length + 1 - k) ∈ L) = true := by
    have e' : inV (V.str (mkS (z.drop (z.length + 1 - k)))) ((L.map mkS).map V.str) = true := e
    rw [inV_word] at e'
    exact e'
  have m32 := s2 _ _ m3
  have ul := dtA_len r
  rw [List.length_map] at ul
  have la := asc_length_le (wins k z)
  rw [wins_length] at la
  refine ⟨_, rfl, c4, rfl, ⟨_, SqT.of e6⟩, fun D2 hD2 => ?_⟩
  refine lc_it (walk_tup (xs := us)) (fun i H' => H' D2 = some (.lst ((((asc (wins k z)).take i).map fun p => decide (p ∈ Pc)).map V.bl)) ∧ Same H2 H') ⟨upd_same, same_new hD2 _⟩ (fun i H' _ ⟨_, s⟩ => SqT.of (s _ _ e6)) ?_ ?_
  · rintro i x H3 H4 hi ⟨n1, n2⟩ ⟨rfl, hx⟩
    obtain ⟨dd, hdd, dx⟩ := dtA_at r hx
    rw [List.getElem?_map] at hdd
    obtain ⟨p, hp, rfl⟩ := Option.map_eq_some_iff.mp hdd
    obtain ⟨e0, rfl, he⟩ := dt_pair dx
    refine ⟨rfl, _, rfl, e0, _, _, .str (mkS p), rfl, rfl, SqT.of (n2 _ _ he), rfl, _, rfl, D, _, rfl, DGet.k (k := kS p) (n2 _ _ m32), ?_⟩
    have ev : (valV (entK (fun _ => V.bl true) ks) (kS p)).isSome = decide (p ∈ Pc) := by
      rw [valV_ent]
      by_cases hpk : p ∈ ks
      · rw [if_pos hpk, decide_eq_true ((m1 p).mp hpk)]
        rfl
      · rw [if_neg hpk, decide_eq_false fun h => hpk ((m1 p).mpr h)]
        rfl
    rw [ev]
    refine ⟨_, n1, ?_, ?_, fun b' o e' => ?_⟩
    · rw [List.length_map, List.length_map, List.length_take, sizeLine_eq]
      omega
    · rw [upd_same, List.take_add_one, hp, List.map_append, List.map_append]
      rfl
    · rw [upd_ne (ne_of_none e' hD2)]
      exact n2 b' o e'
  · rintro H3 ⟨n1, n2⟩
    rw [ul, List.take_length] at n1
    refine ⟨D2, _, rfl, SqL.of n1, ?_⟩
    have g := q H3 (s12.trans n2)
    rw [eacc, f1, f2] at g
    have ea : ((asc (wins k z)).map fun p => decide (p ∈ Pc)).all id = (wins k z).all fun p => decide (p ∈ Pc) := by
      rw [List.all_map, Bool.eq_iff_iff, List.all_eq_true, List.all_eq_true]
      exact ⟨fun h x hx => h x (mem_asc.mpr hx), fun h x hx => h x (mem_asc.mp hx)⟩
    rw [ea]
    exact g
end
end Vf

set_option Elab.async false
set_option linter.all false
set_option maxRecDepth 100000
set_option maxHeartbeats 4000000
namespace Vf
open PySem PySem.Spec PyProof.Rows L2 L2.Vx Vs Vm
abbrev sWords : Stmt := top 12
abbrev sSizes : Stmt := top 13
abbrev sSome : Stmt := top 14
/-! ### all words of a length -/
structure WordsOf (sg : Wd) (n : Nat) (ws : List Wd) : Prop where
  len : ws.length ≤ 4 ^ n
  all : ∀ w ∈ ws, w.length = n ∧ ∀ c ∈ w, c ∈ sg
def spWords : Sp := fun vs H Q _ => ∃ (sg : Wd) (n : Nat), vs = [.str (mkS sg), .int n] ∧ sg.length ≤ 4 ∧ n ≤ 4 ∧ ∀ (ws : List Wd) (p : Addr) (H' : Hp), WordsOf sg n ws → Same H H' → H p = none → H' p = some (.lst ((ws.map mkS).map .str)) → Q (.ref p) H'
theorem mkS_append' (a b : Wd) : mkS a ++ mkS b = mkS (a ++ b) := mkS_append a b
structure TxtW (mg : Str → Option Value) (fW fP : Addr) : Prop extends TxtD mg fW where
  pick : mg "_law_pick" = some (.ref fP)
  range : mg "range" = none
  tuple : mg "tuple" = none
section
variable {P : Program} {w : World} {K : PySem.W.Frag} {mg : Str → Option Value} {base : Heap}
abbrev nWords : List Str := ["_law_abc", "_law_size", "_law_found", "_law_k", "_law_longer", "_law_word", "_law_sign"]
theorem scWords : FnScope nWords ["_law_abc", "_law_size"] (defScope sWords) := ⟨rfl, rfl, rfl, by decide +kernel, rfl, by decide +kernel, by decide +kernel⟩
theorem ok_words {f fW fP : Addr} {fd : FuncData} (F : Fun K "_law_words" "_law_words" sWords f fd) (T : TxtW mg fW fP) : FnOk P w K mg base CX0 1 f fd ["_law_abc", "_law_size"] spWords := by
  refine F.ok scWords (fun vs H Q E h => ?_) (fun cdv A outer s H vs Q E hr h => ?_)
  · obtain ⟨sg, n, rfl, _⟩ := h
    rfl
  obtain ⟨sg, n, rfl, hsg, hn, q⟩ := h
  refine ⟨_, pss_cons (ps_set (i := 2) scWords.nd rfl (Or.inl rfl) (pe_lst (pa_cons pe_str pa_nil)))
    (pss_cons (ps_for PassesOwn.never rfl (pi_range1 rfl T.range (pa_cons (pv 1) pa_nil)) (pg_name (i := 3) scWords.nd rfl (Or.inl rfl))
      (pss_cons (ps_set (i := 4) scWords.nd rfl (Or.inl rfl) (pe_lst pa_nil))
      (pss_cons (ps_for PassesOwn.never rfl (pi_list (pv 2)) (pg_name (i := 5) scWords.nd rfl (Or.inr rfl))
        (pss_one (ps_expr (pe_bm PySem.F.plainAttrs_list PySem.F.slot_list_extend PySem.F.type_list_extend mt_extend (pv 4) (pa_cons (pe_lc (own := [("_law_sign", 6)]) (g := gName 6) (tt := tYes) rfl scWords.nd (pi_str (pv 0))
          (blkOk_by (N := nWords) (sc := defScope sWords) (by decide +kernel)) (fun _ _ _ _ _ => pg_name (i := 6) scWords.nd rfl (Or.inl rfl)) (fun _ _ _ _ _ => pts_nil) (fun _ _ _ _ _ => by exact pe_op op_add_str (pv 5) (pv 6))) pa_nil)))))
      (pss_one (ps_set (i := 2) scWords.nd rfl (Or.inl rfl) (pv 4))))))
    (pss_one (ps_ret (pv 2)))), ?_⟩
  refine ⟨(by show 1 ≤ sizeLine; decide), fun p0 hp0 => ?_⟩
  refine ⟨_, rfl, _, rfl, by omega, by omega, ?_⟩
  rw [show ((n : Int)).toNat = n by omega]
  have e00 : mkS [] = ("" : Str) := by decide +kernel
  refine for_range (lo := 0) (n := n) (fun i σ H' => ∃ (p : Addr) (v3 v4 v5 : Option V) (ws : List Wd), σ = [some (.str (mkS sg)), some (.int n), some (.ref p), v3, v4, v5, none] ∧ WordsOf sg i ws ∧ Same H H' ∧ H p = none ∧ H' p = some (.lst ((ws.map mkS).map .str)))
    ⟨p0, none, none, none, [[]], rfl, ⟨by simp, fun w hw => by rw [List.mem_singleton.mp hw]; exact ⟨rfl, fun c h => nomatch h⟩⟩, same_new hp0 _, hp0, by rw [upd_same, ← e00]; rfl⟩ ?_ ?_
  · rintro i σ H1 hi ⟨p, v3, v4, v5, ws, rfl, hw, s1, np, ep⟩
    have hwl := hw.len
    have h4 : 4 ^ i ≤ 64 := Nat.le_trans (Nat.pow_le_pow_right (by decide) (show i ≤ 3 by omega)) (by decide)
    refine ⟨(by show 0 ≤ sizeLine; decide), fun pl hpl => ?_⟩
    have npl := s1.free hpl
    have nlp : p ≠ pl := ne_of_none ep hpl
    have s2 := same_new hpl (.lst [])
    refine ⟨_, rfl, p, rfl, ⟨_, SqL.of (s2 _ _ ep)⟩, ?_⟩
    refine for_list (K := K) (a := p) (xs := (ws.map mkS).map .str) (fun j σ H' => ∃ (v5 : Option V) (us : List Wd), σ = [some (.str (mkS sg)), some (.int n), some (.ref p), some (.int (0 + (i : Nat))), some (.ref pl), v5, none] ∧ us.length ≤ 4 * j ∧ (∀ u ∈ us, u.length = i + 1 ∧ ∀ c ∈ u, c ∈ sg) ∧ H' pl = some (.lst ((us.map mkS).map .str)) ∧ (∀ b o, b ≠ pl → H1 b = some o → H' b = some o))
      ⟨v5, [], rfl, Nat.zero_le _, (fun u h => nomatch h), upd_same, fun b o n e => s2 b o e⟩ (fun j σ H' _ ⟨_, _, _, _, _, _, s⟩ => SqL.of (s _ _ nlp ep)) ?_ ?_
    · rintro j y σ H2 hj ⟨v5, us, rfl, u1, u2, u3, u4⟩
      obtain ⟨z, hz, rfl⟩ := str_at hj
      obtain ⟨zl, zc⟩ := hw.all z (List.mem_of_getElem? hz)
      have hjl : j < ws.length := (List.getElem?_eq_some_iff.mp hz).1
      refine ⟨_, rfl, .inl ⟨rfl, _, SqL.of u3⟩, _, rfl, _, rfl, fun D hD => ?_⟩
      have nDl : pl ≠ D := ne_of_none u3 hD
      refine lc_it walk_str (fun i' H' => H' D = some (.lst ((((sg.take i').map fun c => z ++ [c]).map mkS).map .str)) ∧ Same H2 H') ⟨upd_same, same_new hD _⟩ (fun _ _ _ _ => trivial) ?_ ?_
      · rintro i' x H3 H4 hi' ⟨d1, d2⟩ ⟨rfl, cc, hcc, rfl⟩
        have hc2 : sg[i']? = some cc := by
          rw [← Array.getElem?_toList, mkS_cps] at hcc
          exact hcc
        refine ⟨rfl, _, rfl, _, rfl, _, _, rfl, rfl, ?_, _, d1, ?_, ?_, fun b o e => ?_⟩
        · show (mkS z).length + (mkS [cc]).length ≤ sizeLine
          rw [mkS_length, mkS_length, zl, sizeLine_eq]
          show i + 1 ≤ _
          omega
        · rw [List.length_map, List.length_map, List.length_map, List.length_take, sizeLine_eq]
          omega
        · rw [upd_same, List.take_add_one, hc2, List.map_append, List.map_append, List.map_append]
          show some (HO.lst (_ ++ [V.str (mkS z ++ mkS [cc])])) = _
          rw [mkS_append']
          rfl
        · rw [upd_ne (ne_of_none e hD)]
          exact d2 b o e
      · rintro H3 ⟨d1, d2⟩
        have esz : (mkS sg).cps.size = sg.length := mkS_length sg
        rw [esz, List.take_length] at d1
        refine ⟨pl, D, _, _, rfl, rfl, d2 _ _ u3, d1, ?_, _, us ++ sg.map (fun c => z ++ [c]), rfl, ?_, ?_, ?_, fun b o n e => ?_⟩
        · rw [List.length_map, List.length_map, List.length_map, List.length_map, List.length_map, sizeLine_eq]
          omega
        · rw [List.length_append, List.length_map]
          omega
        · intro u hu
          rcases List.mem_append.mp hu with h | h
          · exact u2 u h
          · obtain ⟨c, hc, rfl⟩ := List.mem_map.mp h
            refine ⟨by rw [List.length_append, zl]; rfl, fun x hx => ?_⟩
            rcases List.mem_append.mp hx with h | h
            · exact zc x h
            · rw [List.mem_singleton.mp h]; exact hc
        · rw [upd_same, List.map_append, List.map_append]
        · rw [upd_ne n]
          exact d2 _ _ (u4 b o n e)
    · rintro σ H2 ⟨v5, us, rfl, u1, u2, u3, u4⟩
      rw [List.length_map, List.length_map] at u1
      refine ⟨_, rfl, pl, _, _, v5, us, rfl, ⟨?_, u2⟩, fun b o e => ?_, npl, u3⟩
      · rw [Nat.pow_succ]
        omega
      · exact u4 b o (fun z => by rw [z, npl] at e; cases e) (s1 b o e)
  · rintro σ H1 ⟨p, v3, v4, v5, ws, rfl, hw, s1, np, ep⟩
    exact ⟨_, rfl, q ws p H1 hw s1 np ep⟩
end
end Vf

set_option Elab.async false
set_option linter.all false
set_option maxRecDepth 100000
set_option maxHeartbeats 4000000
namespace Vf
open PySem PySem.Spec PyProof.Rows L2 L2.Vx Vs Vm
/-! ### signs, widths, some of the words -/
def GoodS (z : Wd) : Prop := 1 ≤ z.length ∧ z.length ≤ 4 ∧ ∀ c ∈ z, 97 ≤ c ∧ c ≤ 122
def spSizes : Sp := fun vs H Q _ => ∃ (d g : Addr) (c : Nat), vs = [.ref d] ∧ DeckAt c H d g ∧ c + 2 ≤ most ∧
  ∀ (z : Wd) (k : Nat) (p : Addr) (H' : Hp), GoodS z → 1 ≤ k → k ≤ 4 → H' p = some (.tup [.str (mkS z), .int k]) → DeckAt (c + 2) H' d g → Keeps d g H H' → Q (.ref p) H'
def spSome : Sp := fun vs H Q _ => ∃ (d g a : Addr) (ws : List Wd) (sh c : Nat), vs = [.ref d, .ref a, .int sh] ∧ H a = some (.lst ((ws.map mkS).map .str)) ∧ a ≠ d ∧ a ≠ g ∧ 1 ≤ sh ∧ sh ≤ 1000 ∧ ws.length ≤ 4000 ∧ DeckAt c H d g ∧ c + ws.length ≤ most ∧
  ∀ (us : List Wd) (p : Addr) (H' : Hp), us.length ≤ ws.length → (∀ u ∈ us, u ∈ ws) → p ≠ d → p ≠ g → H' p = some (.tup ((us.map mkS).map .str)) → DeckAt (c + ws.length) H' d g → Keeps d g H H' → Q (.ref p) H'
def spPickT : Sp := fun vs H Q _ => ∃ (d g p : Addr) (xs : List V) (c : Nat), vs = [.ref d, .ref p] ∧ H p = some (.tup xs) ∧ p ≠ d ∧ p ≠ g ∧ xs ≠ [] ∧ xs.length < 1000000 ∧ DeckAt c H d g ∧ c < most ∧
  ∀ (x : V) (H' : Hp), x ∈ xs → DeckAt (c + 1) H' d g → Keeps d g H H' → Q x H'
def five : List V := [.str "a", .str "ab", .str "bx", .str "abc", .str "bdfz"]
theorem five_good {x : V} (h : x ∈ five) : ∃ z : Wd, x = .str (mkS z) ∧ GoodS z := by
  have all : ∀ w ∈ [[97], [97, 98], [98, 120], [97, 98, 99], [98, 100, 102, 122]], GoodS w := by
    intro w hw
    have : ∀ w ∈ [[97], [97, 98], [98, 120], [97, 98, 99], [98, 100, 102, 122]], 1 ≤ w.length ∧ w.length ≤ 4 ∧ ∀ c ∈ w, 97 ≤ c ∧ c ≤ 122 := by decide
    exact this w hw
  unfold five at h
  simp only [List.mem_cons, List.not_mem_nil, or_false] at h
  rcases h with e | e | e | e | e
  · exact ⟨[97], e.trans (congrArg V.str (by decide +kernel)), all _ (by simp)⟩
  · exact ⟨[97, 98], e.trans (congrArg V.str (by decide +kernel)), all _ (by simp)⟩
  · exact ⟨[98, 120], e.trans (congrArg V.str (by decide +kernel)), all _ (by simp)⟩
  · exact ⟨[97, 98, 99], e.trans (congrArg V.str (by decide +kernel)), all _ (by simp)⟩
  · exact ⟨[98, 100, 102, 122], e.trans (congrArg V.str (by decide +kernel)), all _ (by simp)⟩
theorem four_at {n : Nat} (h1 : 1 ≤ n) (h2 : n ≤ 4) : ∃ b : Int, atI [V.int 4, V.int 3, V.int 2, V.int 2] ((n : Int) - 1) = some (.int b) ∧ 0 < b ∧ b ≤ 4 := by
  match n, h1, h2 with
  | 1, _, _ => exact ⟨4, rfl, by decide, by decide⟩
  | 2, _, _ => exact ⟨3, rfl, by decide, by decide⟩
  | 3, _, _ => exact ⟨2, rfl, by decide, by decide⟩
  | 4, _, _ => exact ⟨2, rfl, by decide, by decide⟩
section
variable {P : Program} {w : World} {K : PySem.W.Frag} {mg : Str → Option Value} {base : Heap}
theorem ok_pickT {f : Addr} {fd : FuncData} {fW : Addr} {fdW : FuncData} (F : Fun K "_law_pick" "_law_pick" sPick f fd) (FW : Fun K "_law_draw" "_law_draw" sDraw fW fdW) (bW : Binds K fdW ["_law_deck_here", "_law_many"] []) (T : TxtD mg fW) : FnOk P w K mg base CX0 2 f fd ["_law_deck_here", "_law_some_here"] spPickT := by
  have GW : FnOk P w K mg base CX0 1 fW fdW ["_law_deck_here", "_law_many"] spDraw := ok_draw FW T
  refine F.ok scPick (fun vs H Q E h => ?_) (fun cdv A outer s H vs Q E hr h => ?_)
  · obtain ⟨d, g, p, xs, c, rfl, _⟩ := h
    rfl
  obtain ⟨d, g, p, xs, c, rfl, hS, n1, n2, hne, hlen, hD, hc, k⟩ := h
  refine ⟨_, pss_one (ps_ret (pe_ix ix_tup (pv 1) (pe_call GW hr rfl T.draw FW.kp bW .nil pass0 (pa_cons (pv 0) (pa_cons (pe_callB call_len_seq (by rfl) T.len PySem.boot_len (pa_cons (pv 1) pa_nil)) pa_nil))) (fun _ _ => rfl))), ?_⟩
  have hpos : 0 < xs.length := List.length_pos_iff.mpr hne
  refine ⟨_, rfl, _, rfl, _, rfl, p, _, rfl, .inr (SqT.of hS), d, g, _, c, rfl, by omega, by omega, hD, hc, fun r H' h0 h1 hD' kp => ?_⟩
  have hr : r.toNat < xs.length := by omega
  have er : r = ((r.toNat : Nat) : Int) := by omega
  have hx : atI xs r = some xs[r.toNat] := at_of er (List.getElem?_eq_getElem hr)
  exact ⟨p, _, r, _, rfl, rfl, SqT.of (kp _ _ n1 n2 hS), hx, k _ H' (List.getElem_mem hr) hD' kp⟩
theorem scSizes : FnScope ["_law_deck_here", "_law_abc"] ["_law_deck_here"] (defScope sSizes) := ⟨rfl, rfl, rfl, by decide +kernel, rfl, by decide +kernel, by decide +kernel⟩
theorem ok_sizes {f fW fP : Addr} {fd fdW fdP : FuncData} (F : Fun K "_law_sizes" "_law_sizes" sSizes f fd) (T : TxtW mg fW fP)
    (GW : FnOk P w K mg base CX0 1 fW fdW ["_law_deck_here", "_law_many"] spDraw) (bW : Binds K fdW ["_law_deck_here", "_law_many"] []) (kW : PySem.W.keepIn K (.ref fW) = true)
    (GP : FnOk P w K mg base CX0 2 fP fdP ["_law_deck_here", "_law_some_here"] (spPick K)) (bP : Binds K fdP ["_law_deck_here", "_law_some_here"] []) (kP : PySem.W.keepIn K (.ref fP) = true) :
    FnOk P w K mg base CX0 3 f fd ["_law_deck_here"] spSizes := by
  refine F.ok scSizes (fun vs H Q E h => ?_) (fun cdv A outer s H vs Q E hr h => ?_)
  · obtain ⟨d, g, c, rfl, _⟩ := h
    rfl
  obtain ⟨d, g, c, rfl, hD, hc, q⟩ := h
  have hr1 : Room 1 _ := hr.mono (by decide)
  refine ⟨_, pss_cons (ps_set (i := 1) scSizes.nd rfl (Or.inl rfl) (pe_call GP hr rfl T.pick kP bP .nil pass0 (pa_cons (pv 0) (pa_cons (pe_lst (pa_cons pe_str (pa_cons pe_str (pa_cons pe_str (pa_cons pe_str (pa_cons pe_str pa_nil)))))) pa_nil))))
    (pss_one (ps_ret (pe_tup (pa_cons (pv 1) (pa_cons (pe_op op_add pe_int (pe_call GW hr1 rfl T.draw kW bW .nil pass0 (pa_cons (pv 0) (pa_cons
      (pe_ix ix_list (pe_lst (pa_cons pe_int (pa_cons pe_int (pa_cons pe_int (pa_cons pe_int pa_nil))))) (pe_op op_sub (pe_callB call_len_str (by rfl) T.len PySem.boot_len (pa_cons (pv 1) pa_nil)) pe_int) (fun _ _ => rfl)) pa_nil)))) pa_nil))))), ?_⟩
  refine ⟨_, rfl, (by show 5 ≤ sizeLine; decide), fun l hl => ?_⟩
  have nl := hD.dn hl
  refine ⟨d, g, l, five, c, rfl, SqL.of upd_same, nl.1, nl.2, (by intro z; cases z), (by show 5 < 1000000; decide), hD.same (same_new hl _), by omega, fun x H1 hx hD1 k1 => ?_⟩
  obtain ⟨z, rfl, gz⟩ := five_good hx
  refine ⟨_, rfl, _, rfl, (by show 4 ≤ sizeLine; decide), fun l2 hl2 => ?_⟩
  have hz : (mkS z).length = z.length := mkS_length z
  obtain ⟨b, hb, hb0, hb8⟩ := four_at gz.1 gz.2.1
  have s2 := same_new hl2 (.lst [.int 4, .int 3, .int 2, .int 2])
  refine ⟨_, rfl, _, rfl, (by rw [hz, sizeLine_eq]; have := gz.2.1; omega), _, _, rfl, rfl, l2, _, _, .int b, rfl, rfl, SqL.of upd_same, by rw [hz]; exact hb, d, g, b, c + 1, rfl, hb0, by omega, hD1.same s2, by omega, fun r H2 r0 rb hD2 k2 => ?_⟩
  refine ⟨_, _, rfl, rfl, (by show 2 ≤ sizeLine; decide), fun t ht => ?_⟩
  have ek : (1 + r : Int) = ((1 + r).toNat : Nat) := by omega
  refine q z (1 + r).toNat t _ gz (by omega) (by omega) ?_ (hD2.same (same_new ht _)) ((((Keeps.of (same_new hl _)).trans k1).trans (Keeps.of s2)).trans k2 |>.trans (Keeps.of (same_new ht _)))
  rw [upd_same, ← ek]
abbrev nSome : List Str := ["_law_deck_here", "_law_items", "_law_share", "_law_it"]
theorem scSome : FnScope nSome ["_law_deck_here", "_law_items", "_law_share"] (defScope sSome) := ⟨rfl, rfl, rfl, by decide +kernel, rfl, by decide +kernel, by decide +kernel⟩
theorem ok_some {f fW fP : Addr} {fd fdW : FuncData} (F : Fun K "_law_some" "_law_some" sSome f fd) (T : TxtW mg fW fP)
    (GW : FnOk P w K mg base CX0 1 fW fdW ["_law_deck_here", "_law_many"] spDraw) (bW : Binds K fdW ["_law_deck_here", "_law_many"] []) (kW : PySem.W.keepIn K (.ref fW) = true) :
    FnOk P w K mg base CX0 2 f fd ["_law_deck_here", "_law_items", "_law_share"] spSome := by
  refine F.ok scSome (fun vs H Q E h => ?_) (fun cdv A outer s H vs Q E hr h => ?_)
  · obtain ⟨d, g, a, ws, sh, c, rfl, _⟩ := h
    rfl
  obtain ⟨d, g, a, ws, sh, c, rfl, ha, nd, ng, hs1, hs2, hwl, hD, hc, q⟩ := h
  refine ⟨_, pss_one (ps_ret (pe_callTy call_tuple_of (by rfl) T.tuple (by decide +kernel) (pa_cons (pe_lc (own := [("_law_it", 3)]) (g := gName 3) (tt := _) rfl scSome.nd (pi_list (pv 1))
      (blkOk_by (N := nSome) (sc := defScope sSome) (by decide +kernel)) (fun _ _ _ _ _ => pg_name (i := 3) scSome.nd rfl (Or.inl rfl)) (fun _ _ _ _ _ => pts_one (pt_cmpR op_gt (pe_call GW hr rfl T.draw kW bW .nil pass0 (pa_cons (pv 0) (pa_cons (pv 2) pa_nil))) pe_int (nomark _)))
      (fun _ _ _ _ _ => by exact pv 3)) pa_nil))), ?_⟩
  refine ⟨_, rfl, a, rfl, ⟨_, SqL.of ha⟩, fun D hD0 => ?_⟩
  have nD := hD.dn hD0
  have nDa : a ≠ D := ne_of_none ha hD0
  refine lc_it (walk_list (xs := (ws.map mkS).map .str)) (fun i H' => ∃ us : List Wd, H' D = some (.lst ((us.map mkS).map .str)) ∧ us.length ≤ i ∧ (∀ u ∈ us, u ∈ ws) ∧ DeckAt (c + i) H' d g ∧ Keeps d g H H')
    ⟨[], upd_same, Nat.le_refl _, (fun u h => nomatch h), hD.same (same_new hD0 _), Keeps.of (same_new hD0 _)⟩ (fun i H' _ ⟨_, _, _, _, _, k⟩ => SqL.of (k _ _ nd ng ha)) ?_ ?_
  · rintro i x H1 H2 hi ⟨us, m1, m2, m3, hD1, k1⟩ ⟨rfl, hx⟩
    obtain ⟨z, hz, rfl⟩ := str_at hx
    have hil : i < ws.length := (List.getElem?_eq_some_iff.mp hz).1
    refine ⟨rfl, _, rfl, _, rfl, d, g, _, c + i, rfl, by omega, by omega, hD1, by omega, fun r H3 r0 r1 hD3 k3 => ?_⟩
    have kD := k3 _ _ nD.1 nD.2 m1
    refine ⟨_, _, rfl, rfl, _, rfl, ?_⟩
    refine ite2 (fun _ => ?_) (fun _ => ?_)
    · refine ⟨_, rfl, _, kD, by rw [List.length_map, List.length_map, sizeLine_eq]; omega, us ++ [z], ?_, ?_, ?_, hD3.other nD.1 nD.2 _, fun b o n1 n2 e => ?_⟩
      · rw [upd_same, List.map_append, List.map_append]; rfl
      · rw [List.length_append]
        show us.length + 1 ≤ _
        omega
      · intro u hu
        rcases List.mem_append.mp hu with h | h
        · exact m3 u h
        · rw [List.mem_singleton.mp h]; exact List.mem_of_getElem? hz
      · rw [upd_ne (ne_of_none e hD0)]
        exact k3 b o n1 n2 (k1 b o n1 n2 e)
    · exact ⟨us, kD, by omega, m3, hD3, k1.trans k3⟩
  · rintro H1 ⟨us, m1, m2, m3, hD1, k1⟩
    rw [List.length_map, List.length_map] at m2 hD1
    refine ⟨D, _, rfl, .inl ⟨SqL.of m1, fun t ht => ?_⟩⟩
    have nt := hD1.dn ht
    exact q us t _ m2 m3 nt.1 nt.2 upd_same (hD1.same (same_new ht _)) (k1.trans (Keeps.of (same_new ht _)))
end
end Vf

set_option Elab.async false
set_option linter.all false
set_option maxRecDepth 100000
set_option maxHeartbeats 4000000
namespace Vf
open PySem PySem.Spec PyProof.Rows L2 L2.Vx Vs Vm
abbrev sBars : Stmt := top 15
/-! ### a judge that is drawn -/
def SmallL (L : List Wd) : Prop := L.length ≤ 400 ∧ ∀ w ∈ L, w.length ≤ 4 ∧ ∀ c ∈ w, c < 1000
structure SmallJ (S F L P : List Wd) : Prop where
  s : SmallL S
  f : SmallL F
  l : SmallL L
  p : SmallL P
def spBars : Sp := fun vs H Q _ => ∃ (d g : Addr) (sg : Wd) (k c : Nat), vs = [.ref d, .str (mkS sg), .int k] ∧ GoodS sg ∧ 1 ≤ k ∧ k ≤ 4 ∧ DeckAt c H d g ∧ c + 2000 ≤ most ∧
  ∀ (S F L Pc : List Wd) (p : Addr) (H' : Hp), Dt H' (fun a => a ≠ d ∧ a ≠ g) (.ref p) (judgeD k S F L Pc) → SmallJ S F L Pc → DeckAt (c + 2000) H' d g → Keeps d g H H' → Q (.ref p) H'
def three : List V := [.int 2, .int 3, .int 4]
theorem three_good {x : V} (h : x ∈ three) : ∃ n : Nat, x = .int n ∧ 1 ≤ n ∧ n ≤ 1000 := by
  unfold three at h
  simp only [List.mem_cons, List.not_mem_nil, or_false] at h
  rcases h with e | e | e
  · exact ⟨2, e, by decide, by decide⟩
  · exact ⟨3, e, by decide, by decide⟩
  · exact ⟨4, e, by decide, by decide⟩
theorem dt_of_words {H : Hp} {Sx : Addr → Prop} {a : Addr} {L : List Wd} (e : H a = some (.tup ((L.map mkS).map .str))) (s : Sx a) : Dt H Sx (.ref a) (wordsD L) := by
  refine .tup e s ?_
  have : ∀ L : List Wd, DtAll H Sx ((L.map mkS).map .str) (L.map fun z => .str (mkS z)) := by
    intro L
    induction L with
    | nil => exact .nil
    | cons z L ih => exact .cons (.flat (show FlatD (.str (mkS z)) (.str (mkS z)) from rfl)) ih
  exact this L
theorem keep_dt {d g : Addr} {Ha Hb : Hp} {v : V} {D : PyData} (kk : Keeps d g Ha Hb) (h : Dt Ha (fun a => a ≠ d ∧ a ≠ g) v D) : Dt Hb (fun a => a ≠ d ∧ a ≠ g) v D := h.mono (fun a o sa e => kk a o sa.1 sa.2 e) fun _ _ x _ => x
theorem small_words {sg : Wd} {n : Nat} {ws us : List Wd} (gs : GoodS sg) (hn : n ≤ 4) (h : WordsOf sg n ws) (ul : us.length ≤ ws.length) (hu : ∀ u ∈ us, u ∈ ws) : SmallL us := by
  have h4 : 4 ^ n ≤ 256 := Nat.le_trans (Nat.pow_le_pow_right (by decide) hn) (by decide)
  have := h.len
  refine ⟨by omega, fun w hw => ?_⟩
  obtain ⟨a, b⟩ := h.all w (hu w hw)
  exact ⟨by omega, fun c hc => Nat.lt_of_le_of_lt (gs.2.2 c (b c hc)).2 (by decide)⟩
section
variable {P : Program} {w : World} {K : PySem.W.Frag} {mg : Str → Option Value} {base : Heap}
abbrev nBars : List Str := ["_law_deck_here", "_law_abc", "_law_wide", "_law_small", "_law_share", "_law_size", "_law_inner", "_law_whole", "_law_found"]
theorem scBars : FnScope nBars ["_law_deck_here", "_law_abc", "_law_wide"] (defScope sBars) := ⟨rfl, rfl, rfl, by decide +kernel, rfl, by decide +kernel, by decide +kernel⟩
theorem ok_bars {f fW fP fO fS : Addr} {fd fdP fdO fdS : FuncData} (F : Fun K "_law_bars" "_law_bars" sBars f fd) (T : TxtW mg fW fP)
    (GP : FnOk P w K mg base CX0 2 fP fdP ["_law_deck_here", "_law_some_here"] (spPick K)) (bP : Binds K fdP ["_law_deck_here", "_law_some_here"] []) (kP : PySem.W.keepIn K (.ref fP) = true)
    (GO : FnOk P w K mg base CX0 1 fO fdO ["_law_abc", "_law_size"] spWords) (bO : Binds K fdO ["_law_abc", "_law_size"] []) (kO : PySem.W.keepIn K (.ref fO) = true) (mO : mg "_law_words" = some (.ref fO))
    (GS : FnOk P w K mg base CX0 2 fS fdS ["_law_deck_here", "_law_items", "_law_share"] spSome) (bS : Binds K fdS ["_law_deck_here", "_law_items", "_law_share"] []) (kS' : PySem.W.keepIn K (.ref fS) = true) (mS : mg "_law_some" = some (.ref fS)) :
    FnOk P w K mg base CX0 3 f fd ["_law_deck_here", "_law_abc", "_law_wide"] spBars := by
  refine F.ok scBars (fun vs H Q E h => ?_) (fun cdv A outer s H vs Q E hr h => ?_)
  · obtain ⟨d, g, sg, k, c, rfl, _⟩ := h
    rfl
  obtain ⟨d, g, sg, k, c, rfl, gs, k1, k4, hD, hc, q⟩ := h
  have hr1 : Room 1 _ := hr.mono (by decide)
  refine ⟨_, pss_cons (ps_par (i := 3) (j := 4) rfl scBars.nd rfl rfl (by decide) rfl rfl (pa_cons (pe_lst pa_nil) (pa_cons (pe_call GP hr rfl T.pick kP bP .nil pass0 (pa_cons (pv 0) (pa_cons (pe_lst (pa_cons pe_int (pa_cons pe_int (pa_cons pe_int pa_nil)))) pa_nil))) pa_nil)) (by rfl))
    (pss_cons (ps_for PassesOwn.never rfl (pi_range1 rfl T.range (pa_cons (pv 2) pa_nil)) (pg_name (i := 5) scBars.nd rfl (Or.inl rfl))
      (pss_one (ps_expr (pe_bm PySem.F.plainAttrs_list PySem.F.slot_list_extend PySem.F.type_list_extend mt_extend (pv 3) (pa_cons (pe_call GO hr1 rfl mO kO bO .nil pass0 (pa_cons (pv 1) (pa_cons (pv 5) pa_nil))) pa_nil)))))
    (pss_cons (ps_par (i := 6) (j := 7) rfl scBars.nd rfl rfl (by decide) rfl rfl (pa_cons (pe_call GO hr1 rfl mO kO bO .nil pass0 (pa_cons (pv 1) (pa_cons (pe_op op_sub (pv 2) pe_int) pa_nil))) (pa_cons (pe_call GO hr1 rfl mO kO bO .nil pass0 (pa_cons (pv 1) (pa_cons (pv 2) pa_nil))) pa_nil)) (by rfl))
    (pss_cons (ps_set (i := 8) scBars.nd rfl (Or.inl rfl) (pe_tup (pa_cons (pv 2) (pa_cons (pe_call GS hr rfl mS kS' bS .nil pass0 (pa_cons (pv 0) (pa_cons (pv 3) (pa_cons pe_int pa_nil)))) (pa_cons (pe_call GS hr rfl mS kS' bS .nil pass0 (pa_cons (pv 0) (pa_cons (pv 6) (pa_cons (pv 4) pa_nil)))) pa_nil)))))
    (pss_one (ps_ret (pe_op op_catT (pv 8) (pe_tup (pa_cons (pe_call GS hr rfl mS kS' bS .nil pass0 (pa_cons (pv 0) (pa_cons (pv 6) (pa_cons (pv 4) pa_nil)))) (pa_cons (pe_call GS hr rfl mS kS' bS .nil pass0 (pa_cons (pv 0) (pa_cons (pv 7) (pa_cons (pv 4) pa_nil)))) pa_nil))))))))), ?_⟩
  refine ⟨(by show 0 ≤ sizeLine; decide), fun l0 hl0 => ?_⟩
  have hDa := hD.same (same_new hl0 (.lst []))
  have n0 := hD.dn hl0
  refine ⟨_, rfl, (by show 3 ≤ sizeLine; decide), fun l1 hl1 => ?_⟩
  have n1 := hDa.dn hl1
  refine ⟨d, g, l1, three, c, rfl, SqL.of upd_same, n1.1, n1.2, (by intro z; cases z), (by show 3 < 1000000; decide), hDa.same (same_new hl1 _), by omega, fun x H1 hx hD1 kp1 => ?_⟩
  obtain ⟨sh, rfl, h1, h2⟩ := three_good hx
  refine ⟨_, _, rfl, ?_⟩
  have e0 : H1 l0 = some (.lst []) := kp1 _ _ n0.1 n0.2 ((same_new hl1 _) _ _ upd_same)
  have K1 : Keeps d g H H1 := (Keeps.of (same_new hl0 _)).trans ((Keeps.of (same_new hl1 _)).trans kp1)
  refine ⟨_, rfl, _, rfl, by omega, by omega, ?_⟩
  rw [show ((k : Int)).toNat = k by omega]
  refine for_range (lo := 0) (n := k) (fun i σ H' => ∃ (v5 : Option V) (us : List Wd), σ = [some (.ref d), some (.str (mkS sg)), some (.int k), some (.ref l0), some (.int sh), v5, none, none, none] ∧ us.length ≤ 64 * i ∧ (∀ u ∈ us, u.length ≤ 4 ∧ ∀ c ∈ u, c < 1000) ∧ H' l0 = some (.lst ((us.map mkS).map .str)) ∧ DeckAt (c + 1) H' d g ∧ (∀ b o, b ≠ l0 → H1 b = some o → H' b = some o))
    ⟨none, [], rfl, Nat.zero_le _, (fun u h => nomatch h), e0, hD1, fun b o _ e => e⟩ ?_ ?_
  · rintro i σ H2 hi ⟨v5, us, rfl, u1, u2, u3, hD2, u4⟩
    refine ⟨_, rfl, .inl ⟨rfl, _, SqL.of u3⟩, _, rfl, _, rfl, sg, i, by rw [Int.zero_add]; rfl, gs.2.1, by omega, fun ws p H3 hw s3 np ep => ?_⟩
    have hwl := hw.len
    have h4 : 4 ^ i ≤ 64 := Nat.le_trans (Nat.pow_le_pow_right (by decide) (show i ≤ 3 by omega)) (by decide)
    refine ⟨l0, p, _, _, rfl, rfl, s3 _ _ u3, ep, by rw [List.length_map, List.length_map, List.length_map, List.length_map, sizeLine_eq]; omega, _, us ++ ws, rfl, by rw [List.length_append]; omega, fun u hu => ?_, by rw [upd_same, List.map_append, List.map_append], (hD2.same s3).other n0.1 n0.2 _, fun b o n e => ?_⟩
    · rcases List.mem_append.mp hu with h | h
      · exact u2 u h
      · obtain ⟨a, b⟩ := hw.all u h
        exact ⟨by omega, fun c hc => Nat.lt_of_le_of_lt (gs.2.2 c (b c hc)).2 (by decide)⟩
    · rw [upd_ne n]
      exact s3 _ _ (u4 b o n e)
  rintro σ H2 ⟨v5, us, rfl, u1, u2, u3, hD2, u4⟩
  have K2 : Keeps d g H H2 := fun b o a1 a2 e => u4 b o (fun z => by rw [z, hl0] at e; cases e) (K1 b o a1 a2 e)
  refine ⟨_, rfl, _, rfl, _, _, rfl, rfl, sg, k - 1, (by rw [show ((k - 1 : Nat) : Int) = (k : Int) - 1 by omega]; rfl), gs.2.1, by omega, fun wi pi H3 hwi s3 npi epi => ?_⟩
  refine ⟨_, rfl, _, rfl, sg, k, rfl, gs.2.1, by omega, fun ww pw H4 hww s4 npw epw => ?_⟩
  refine ⟨_, _, rfl, ?_⟩
  have hDb := (hD2.same s3).same s4
  have ni := hD2.dn npi
  have nw := (hD2.same s3).dn npw
  have us4 : us.length ≤ 256 := by omega
  have wil : wi.length ≤ 256 := Nat.le_trans hwi.len (Nat.le_trans (Nat.pow_le_pow_right (by decide) (show k - 1 ≤ 4 by omega)) (by decide))
  have wwl : ww.length ≤ 256 := Nat.le_trans hww.len (Nat.le_trans (Nat.pow_le_pow_right (by decide) k4) (by decide))
  refine ⟨_, rfl, _, rfl, _, rfl, d, g, l0, us, 2, c + 1, rfl, s4 _ _ (s3 _ _ u3), n0.1, n0.2, by decide, by decide, by omega, hDb, by omega, fun xs ps H5 x1 x2 x3 x4 x5 hD5 k5 => ?_⟩
  refine ⟨_, rfl, _, rfl, _, rfl, d, g, pi, wi, sh, _, rfl, k5 _ _ ni.1 ni.2 (s4 _ _ epi), ni.1, ni.2, h1, h2, by omega, hD5, by omega, fun ys qs H6 y1 y2 y3 y4 y5 hD6 k6 => ⟨(by show 3 ≤ sizeLine; decide), fun tf htf => ?_⟩⟩
  have nt := hD6.dn htf
  have s7 := same_new htf (.tup [.int k, .ref ps, .ref qs])
  have k67 := k6.trans (Keeps.of s7)
  have etf : upd H6 tf (.tup [.int k, .ref ps, .ref qs]) tf = some (.tup [.int k, .ref ps, .ref qs]) := upd_same
  have x7 := k67 _ _ x3 x4 x5
  have y7 := s7 _ _ y5
  have hD7 := hD6.same s7
  have i7 := k67 _ _ ni.1 ni.2 (k5 _ _ ni.1 ni.2 (s4 _ _ epi))
  have w7 := k67 _ _ nw.1 nw.2 (k5 _ _ nw.1 nw.2 epw)
  have K7 := ((K2.trans (Keeps.of (s3.trans s4))).trans k5).trans k67
  generalize upd H6 tf (.tup [.int k, .ref ps, .ref qs]) = H7 at etf x7 y7 hD7 i7 w7 K7 ⊢
  refine ⟨_, rfl, _, rfl, _, rfl, _, rfl, d, g, pi, wi, sh, _, rfl, i7, ni.1, ni.2, h1, h2, by omega, hD7, by omega, fun zs rs H8 z1 z2 z3 z4 z5 hD8 k8 => ?_⟩
  refine ⟨_, rfl, _, rfl, _, rfl, d, g, pw, ww, sh, _, rfl, k8 _ _ nw.1 nw.2 w7, nw.1, nw.2, h1, h2, by omega, hD8, by omega, fun vs ts H9 v1 v2 v3 v4 v5 hD9 k9 => ⟨(by show 2 ≤ sizeLine; decide), fun tg htg => ?_⟩⟩
  have s10 := same_new htg (.tup [.ref rs, .ref ts])
  have ntg := hD9.dn htg
  have k910 := k9.trans (Keeps.of s10)
  refine ⟨tf, tg, _, _, rfl, rfl, SqT.of (k910 _ _ nt.1 nt.2 (k8 _ _ nt.1 nt.2 etf)), SqT.of upd_same, (by intro z; cases z), (by show 3 + 2 ≤ sizeLine; decide), fun z => (by cases z), fun _ p hp => ?_⟩
  have s11 := same_new hp (.tup ([.int k, .ref ps, .ref qs] ++ [.ref rs, .ref ts]))
  have hDe := (hD9.same s10).same s11
  have np := (hD9.same s10).dn hp
  have kE := k910.trans (Keeps.of s11)
  have fx := kE _ _ x3 x4 (k8 _ _ x3 x4 x7)
  have fy := kE _ _ y3 y4 (k8 _ _ y3 y4 y7)
  have fz := kE _ _ z3 z4 z5
  have fv := s11 _ _ (s10 _ _ v5)
  refine q xs ys zs vs p _ (.tup upd_same np (.cons (.flat (show FlatD (.int k) (.int k) from rfl)) (.cons (dt_of_words fx ⟨x3, x4⟩) (.cons (dt_of_words fy ⟨y3, y4⟩) (.cons (dt_of_words fz ⟨z3, z4⟩) (.cons (dt_of_words fv ⟨v3, v4⟩) .nil))))))
    ⟨⟨by omega, fun u hu => u2 u (x2 u hu)⟩, small_words gs (by omega) hwi y1 y2, small_words gs (by omega) hwi z1 z2, small_words gs k4 hww v1 v2⟩ (hDe.le (by omega)) (K7.trans (k8.trans kE))
end
end Vf

set_option Elab.async false
set_option linter.all false
set_option maxRecDepth 100000
set_option maxHeartbeats 4000000
namespace Vm
open PySem PySem.Spec PyProof.Rows L2 L2.Vx
/-! ### data of texts, ints, lists and tuples: what is equal, what is shown -/
section
mutual
def plainD : PyData → Bool
  | .int _ => true
  | .str x => x.cps.toList.all fun c => decide (c < 1000)
  | .list xs => plainDs xs
  | .tuple xs => plainDs xs
  | _ => false
def plainDs : List PyData → Bool
  | [] => true
  | x :: xs => plainD x && plainDs xs
end
mutual
theorem eqv_plain : ∀ (d e : PyData), plainD d = true → plainD e = true → PyData.eqv d e = true → d = e
  | .int i, .int j, _, _, h => by
    simp only [PyData.eqv, beq_iff_eq] at h
    rw [h]
  | .int _, .str _, _, _, h => by simp [PyData.eqv] at h
  | .int _, .list _, _, _, h => by simp [PyData.eqv] at h
  | .int _, .tuple _, _, _, h => by simp [PyData.eqv] at h
  | .str x, .str y, _, _, h => by
    simp only [PyData.eqv, beq_iff_eq] at h
    rw [h]
  | .str _, .int _, _, _, h => by simp [PyData.eqv] at h
  | .str _, .list _, _, _, h => by simp [PyData.eqv] at h
  | .str _, .tuple _, _, _, h => by simp [PyData.eqv] at h
  | .list xs, .list ys, h1, h2, h => by
    simp only [PyData.eqv] at h
    simp only [plainD] at h1 h2
    rw [eqv_plainAll xs ys h1 h2 h]
  | .list _, .int _, _, _, h => by simp [PyData.eqv] at h
  | .list _, .str _, _, _, h => by simp [PyData.eqv] at h
  | .list _, .tuple _, _, _, h => by simp [PyData.eqv] at h
  | .tuple xs, .tuple ys, h1, h2, h => by
    simp only [PyData.eqv] at h
    simp only [plainD] at h1 h2
    rw [eqv_plainAll xs ys h1 h2 h]
  | .tuple _, .int _, _, _, h => by simp [PyData.eqv] at h
  | .tuple _, .str _, _, _, h => by simp [PyData.eqv] at h
  | .tuple _, .list _, _, _, h => by simp [PyData.eqv] at h
  | .none, _, h, _, _ => by simp [plainD] at h
  | .bool _, _, h, _, _ => by simp [plainD] at h
  | .dict _, _, h, _, _ => by simp [plainD] at h
  | .int _, .none, _, h, _ => by simp [plainD] at h
  | .int _, .bool _, _, h, _ => by simp [plainD] at h
  | .int _, .dict _, _, h, _ => by simp [plainD] at h
  | .str _, .none, _, h, _ => by simp [plainD] at h
  | .str _, .bool _, _, h, _ => by simp [plainD] at h
  | .str _, .dict _, _, h, _ => by simp [plainD] at h
  | .list _, .none, _, h, _ => by simp [plainD] at h
  | .list _, .bool _, _, h, _ => by simp [plainD] at h
  | .list _, .dict _, _, h, _ => by simp [plainD] at h
  | .tuple _, .none, _, h, _ => by simp [plainD] at h
  | .tuple _, .bool _, _, h, _ => by simp [plainD] at h
  | .tuple _, .dict _, _, h, _ => by simp [plainD] at h
theorem eqv_plainAll : ∀ (xs ys : List PyData), plainDs xs = true → plainDs ys = true → PyData.eqvAll xs ys = true → xs = ys
  | [], [], _, _, _ => rfl
  | [], _ :: _, _, _, h => by simp [PyData.eqvAll] at h
  | _ :: _, [], _, _, h => by simp [PyData.eqvAll] at h
  | x :: xs, y :: ys, h1, h2, h => by
    simp only [plainDs, Bool.and_eq_true] at h1 h2
    simp only [PyData.eqvAll, Bool.and_eq_true] at h
    rw [eqv_plain x y h1.1 h2.1 h.1, eqv_plainAll xs ys h1.2 h2.2 h.2]
end
mutual
theorem lay_plain : ∀ d : PyData, plainD d = true → d.canLay0 = true
  | .int _, _ => by simp [PyData.canLay0]
  | .str x, h => by
    simp only [plainD, List.all_eq_true, decide_eq_true_iff] at h
    simp only [PyData.canLay0, PyData.strOk]
    rw [← Array.all_toList, List.all_eq_true]
    exact fun c hc => decide_eq_true (Nat.lt_trans (h c hc) (by decide))
  | .list xs, h => by
    simp only [plainD] at h
    simp only [PyData.canLay0]
    exact lay_plainAll xs h
  | .tuple xs, h => by
    simp only [plainD] at h
    simp only [PyData.canLay0]
    exact lay_plainAll xs h
  | .none, h => by simp [plainD] at h
  | .bool _, h => by simp [plainD] at h
  | .dict _, h => by simp [plainD] at h
theorem lay_plainAll : ∀ xs : List PyData, plainDs xs = true → PyData.canLayAll0 xs = true
  | [], _ => by simp [PyData.canLayAll0]
  | x :: xs, h => by
    simp only [plainDs, Bool.and_eq_true] at h
    simp only [PyData.canLayAll0, lay_plain x h.1, lay_plainAll xs h.2, Bool.and_self]
end
mutual
theorem dt_dp {K : PySem.W.Frag} {H : Hp} {S : Addr → Prop} : ∀ {v : V} {d : PyData}, Dt H S v d → plainD d = true → Dp K H v d
  | v, d, .flat e, h => by
    cases v with
    | int i => cases (show d = .int i from e); exact .int i
    | str x => cases (show d = .str x from e); exact .str x
    | non => cases (show d = .none from e); simp [plainD] at h
    | bl b => cases (show d = .bool b from e); simp [plainD] at h
    | _ => exact (show False from e).elim
  | _, _, .lst e _ r, h => by
    simp only [plainD] at h
    exact .lst (SqL.of e) (dtA_dp r h)
  | _, _, .tup e _ r, h => by
    simp only [plainD] at h
    exact .tup (SqT.of e) (dtA_dp r h)
  | _, _, .dct e _ r, h => by simp [plainD] at h
theorem dtA_dp {K : PySem.W.Frag} {H : Hp} {S : Addr → Prop} : ∀ {vs : List V} {ds : List PyData}, DtAll H S vs ds → plainDs ds = true → DpAll K H vs ds
  | _, _, .nil, _ => .nil
  | _, _, .cons a b, h => by
    simp only [plainDs, Bool.and_eq_true] at h
    exact .cons (dt_dp a h.1) (dtA_dp b h.2)
end
end
theorem plain_mkS {z : Wd} (h : ∀ c ∈ z, c < 1000) : plainD (.str (mkS z)) = true := by
  simp only [plainD, mkS_cps, List.all_eq_true, decide_eq_true_iff]
  exact h
theorem plainAll_of : ∀ {ds : List PyData}, (∀ d ∈ ds, plainD d = true) → plainDs ds = true
  | [], _ => by simp [plainDs]
  | x :: r, h => by
    simp only [plainDs, h x (List.mem_cons_self ..), plainAll_of fun d hd => h d (List.mem_cons_of_mem _ hd), Bool.and_self]
/-- bounds that are added up -/
inductive Fits (e : Nat) : Nat → Nat → List PyData → Prop
  | nil : Fits e 0 0 []
  | cons {b s n : Nat} {x : PyData} {ds : List PyData} : Fit b e x → Fits e s n ds → Fits e (b + s) (n + 1) (x :: ds)
theorem Fits.all {e s n : Nat} {ds : List PyData} (h : Fits e s n ds) : PyData.showableAll ds = true ∧ ((PyData.shownAll ds).map (·.length)).sum ≤ s ∧ (PyData.shownAll ds).length = n ∧ PyData.depthAll ds ≤ e := by
  induction h with
  | nil => exact ⟨by simp [PyData.showableAll], by simp [PyData.shownAll], by simp [PyData.shownAll], by simp [PyData.depthAll]⟩
  | cons hx _ ih =>
    obtain ⟨i1, i2, i3, i4⟩ := ih
    have h2 := hx.len
    have h3 := hx.dep
    refine ⟨by simp only [PyData.showableAll, hx.sh, i1, Bool.and_self], ?_, ?_, ?_⟩
    · simp only [PyData.shownAll, List.map_cons, List.sum_cons]
      omega
    · simp only [PyData.shownAll, List.length_cons, i3]
    · simp only [PyData.depthAll]
      exact Nat.max_le.mpr ⟨h3, i4⟩
theorem Fits.tup {e s n : Nat} {ds : List PyData} (h : Fits e s n ds) : Fit (s + 2 * n + 3) (e + 1) (.tuple ds) := by
  obtain ⟨i1, i2, i3, i4⟩ := h.all
  refine ⟨by simpa only [PyData.showable] using i1, ?_, by simp only [PyData.depth]; omega⟩
  simp only [PyData.shown]
  refine Nat.le_trans (tupleText_len_le _) ?_
  rw [i3]
  omega
theorem Fits.lst {e s n : Nat} {ds : List PyData} (h : Fits e s n ds) : Fit (s + 2 * n + 3) (e + 1) (.list ds) := by
  obtain ⟨i1, i2, i3, i4⟩ := h.all
  refine ⟨by simpa only [PyData.showable] using i1, ?_, by simp only [PyData.depth]; omega⟩
  simp only [PyData.shown]
  refine Nat.le_trans (listText_len_le _) ?_
  rw [i3]
  omega
end Vm
namespace Vf
open PySem PySem.Spec PyProof.Rows L2 L2.Vx Vs Vm
/-! ### views as data -/
theorem tab_plain {k : Nat} {z : Wd} {t : Nat} (hc : ∀ c ∈ z, c < 1000) : plainD (sumD t (tab k z)) = true := by
  rw [cnt_eq]
  unfold pairsD
  simp only [plainD]
  refine plainAll_of fun d hd => ?_
  obtain ⟨p, hp, rfl⟩ := List.mem_map.mp hd
  have h1 := plain_mkS (z := p) fun c h => hc c (wins_mem (mem_asc.mp hp) c h)
  simp only [Vm.pairD, plainD, plainDs, Bool.and_true]
  simpa only [plainD] using h1
theorem view_plain {k t : Nat} {z : Wd} (hc : ∀ c ∈ z, c < 1000) : plainD (viewD k t z) = true := by
  have lit : plainD (.str "short") = true ∧ plainD (.str "long") = true := by
    constructor
    · simp only [plainD]; decide +kernel
    · simp only [plainD]; decide +kernel
  by_cases c : z.length < k
  · rw [view_short c]
    simp only [plainD, plainDs, Bool.and_true, Bool.and_eq_true]
    exact ⟨by simpa only [plainD] using lit.1, by simpa only [plainD] using plain_mkS hc⟩
  · rw [view_long c]
    have h1 := plain_mkS (z := z.take (k - 1)) fun c h => hc c (List.mem_of_mem_take h)
    have h2 := plain_mkS (z := z.drop (z.length + 1 - k)) fun c h => hc c (List.mem_of_mem_drop h)
    have h3 := tab_plain (k := k) (t := t) hc
    have h4 : plainD (.tuple [.str "long", .str (mkS (z.take (k - 1))), .str (mkS (z.drop (z.length + 1 - k))), sumD t (tab k z)]) = (plainD (.str "long") && (plainD (.str (mkS (z.take (k - 1)))) && (plainD (.str (mkS (z.drop (z.length + 1 - k)))) && (plainD (sumD t (tab k z)) && true)))) := by
      conv => lhs; unfold plainD
      simp only [plainDs]
    rw [h4, lit.2, h1, h2, h3]
    rfl
theorem view_fit {k t n : Nat} {z : Wd} (hc : ∀ c ∈ z, c < 1000) (hk : k ≤ 8) (hz : z.length ≤ n) (hn : n ≤ 100000) : Fit (n * 101 + 400) 3 (viewD k t z) := by
  have s1 : Fit 50 2 (.str "short") := ⟨rfl, (by decide +kernel : (PyData.shown (.str "short")).length ≤ 50), by simp [PyData.depth]⟩
  have s2 : Fit 50 2 (.str "long") := ⟨rfl, (by decide +kernel : (PyData.shown (.str "long")).length ≤ 50), by simp [PyData.depth]⟩
  by_cases c : z.length < k
  · rw [view_short c]
    refine ((Fits.cons s1 (.cons ((fit_str (n := 8) hc (by omega)).le (Nat.le_refl _) (by decide)) .nil)).tup).le (by omega) (Nat.le_refl _)
  · rw [view_long c]
    have f1 : Fit 82 2 (.str (mkS (z.take (k - 1)))) := (fit_str (n := 8) (fun c h => hc c (List.mem_of_mem_take h)) (by rw [List.length_take]; omega)).le (Nat.le_refl _) (by decide)
    have f2 : Fit 82 2 (.str (mkS (z.drop (z.length + 1 - k)))) := (fit_str (n := 8) (fun c h => hc c (List.mem_of_mem_drop h)) (by rw [List.length_drop]; omega)).le (Nat.le_refl _) (by decide)
    have f3 : Fit ((n + 1) * 101 + 3) 2 (sumD t (tab k z)) := by
      rw [cnt_eq]
      have la := asc_length_le (wins k z)
      rw [wins_length] at la
      refine (fit_tup (b := 99) (e := 1) fun x hx => ?_).le ?_ (Nat.le_refl _)
      · obtain ⟨p, hp, rfl⟩ := List.mem_map.mp hx
        have hw := mem_asc.mp hp
        have h2 := often_le k z p
        exact ((Fits.cons (fit_str (n := 8) (fun c h => hc c (wins_mem hw c h)) (by rw [wins_len hw]; exact hk)) (.cons (fit_int (by omega) (Int.lt_of_le_of_lt (show ((min t (often k z p) : Nat) : Int) ≤ 100001 by omega) (by decide))) .nil)).tup).le (by decide) (by decide)
      · rw [List.length_map]
        have := Nat.mul_le_mul_right 101 (show (asc (wins k z)).length ≤ n + 1 by omega)
        omega
    exact ((Fits.cons s2 (.cons f1 (.cons f2 (.cons f3 .nil)))).tup).le (by omega) (Nat.le_refl _)
theorem view_depth (k t : Nat) (z : Wd) : (viewD k t z).depth ≤ 3 := by
  have one : ∀ (f : Wd → Int) (l : List Wd), PyData.depthAll (l.map (Vm.pairD f)) ≤ 1 := by
    intro f l
    induction l with
    | nil => simp [PyData.depthAll]
    | cons p r ih =>
      rw [List.map_cons]
      simp only [PyData.depthAll]
      refine Nat.max_le.mpr ⟨?_, ih⟩
      simp [PyData.depth, PyData.depthAll]
  by_cases c : z.length < k
  · rw [view_short c]
    simp [PyData.depth, PyData.depthAll]
  · rw [view_long c, cnt_eq]
    have h := one (fun p => ((min t (often k z p) : Nat) : Int)) (asc (wins k z))
    unfold pairsD
    simp only [PyData.depth, PyData.depthAll, Nat.max_zero, Nat.zero_max]
    omega
end Vf

set_option Elab.async false
set_option linter.all false
set_option maxRecDepth 100000
set_option maxHeartbeats 4000000
namespace Vf
open PySem PySem.Spec PyProof.Rows L2 L2.Vx Vs Vm
abbrev sDue : Stmt := top 16
abbrev sOne : Stmt := top 19
/-! ### the law's own judging -/
def spOne : Sp := fun vs H Q _ => ∃ (v : V) (k : Nat) (S F L P : List Wd) (z : Wd) (Sx : Addr → Prop), vs = [v, .str (mkS z)] ∧ Dt H Sx v (judgeD k S F L P) ∧ 1 ≤ k ∧ k ≤ 1000 ∧ z.length ≤ 3000 ∧ P.length ≤ 4000 ∧ ∀ H', Same H H' → Q (.bl true) H'
theorem notIn_word {z : Wd} {L : List Wd} : (if true = true then !inV (.str (mkS z)) ((L.map mkS).map V.str) else inV (.str (mkS z)) ((L.map mkS).map V.str)) = !decide (z ∈ L) := by
  rw [if_pos rfl, inV_word]
section
variable {K : PySem.W.Frag} {f : Addr} {fd : FuncData}
theorem kb_acc (F : Fun K "accepts" "accepts" sAcc f fd) : KBinds K fd ["judge", "text"] ["text", "judge"] gRev gRev := by
  obtain ⟨oc, od, kV, doc, pm, an, cdv, ct, osl, rfl, lk, hcd⟩ := F.ex
  refine ⟨fun s us ws _ hl => ?_, fun r1 r2 => gRev_vals r1 r2⟩
  match us, ws, hl with
  | [], [_, _], _ => exact .of_eq rfl
  | [], [], hl => exact absurd hl (by decide)
  | [], [_], hl => exact absurd hl (by simp [gRev])
  | [], _ :: _ :: _ :: _, hl => exact absurd hl (by simp [gRev])
  | _ :: _, _, hl => exact absurd hl (by simp [gRev])
end
section
variable {P : Program} {w : World} {K : PySem.W.Frag} {mg : Str → Option Value} {base : Heap}
abbrev nDue : List Str := ["_law_it", "_law_word", "_law_wide", "_law_k"]
theorem scDue : FnScope nDue ["_law_it", "_law_word"] (defScope sDue) := ⟨rfl, rfl, rfl, by decide +kernel, rfl, by decide +kernel, by decide +kernel⟩
theorem ok_due {f fW fP : Addr} {fd : FuncData} (F : Fun K "_law_accepted" "_law_accepted" sDue f fd) (T : TxtW mg fW fP) : FnOk P w K mg base CX0 1 f fd ["_law_it", "_law_word"] spAcc := by
  refine F.ok scDue (fun vs H Q E h => ?_) (fun cdv A outer s H vs Q E hr h => ?_)
  · obtain ⟨v, k, S, F, L, P, z, Sx, rfl, _⟩ := h
    rfl
  obtain ⟨v, k, S, Fi, L, Pc, z, Sx, rfl, hJ, hk1, hk2, hz, hP, q⟩ := h
  refine ⟨_, pss_cons (ps_set (i := 2) scDue.nd rfl (Or.inr rfl) (pe_ix ix_tup (pv 0) pe_int (fun _ _ => rfl)))
    (pss_cons (ps_if (pt_cmpR op_lt (pe_callB call_len_str (by rfl) T.len PySem.boot_len (pa_cons (pv 1) pa_nil)) (pv 2) (nomark _)) (pss_one (ps_ret (pe_cmpR op_in_seq (pv 1) (pe_ix ix_tup (pv 0) pe_int (fun _ _ => rfl)) (by rfl)))) pss_nil)
    (pss_cons (ps_if (PW.pt (pw_or (pt_cmpR op_notIn_seq (pe_slice sl_str (pv 1) po_none (po_some (pe_op op_sub (pv 2) pe_int))) (pe_ix ix_tup (pv 0) pe_int (fun _ _ => rfl)) (by rfl))
        (pw_or1 (pt_cmpR op_notIn_seq (pe_slice sl_str (pv 1) (po_some (pe_op op_add (pe_op op_sub (pe_callB call_len_str (by rfl) T.len PySem.boot_len (pa_cons (pv 1) pa_nil)) (pv 2)) pe_int)) po_none) (pe_ix ix_tup (pv 0) pe_int (fun _ _ => rfl)) (by rfl))))) (pss_one (ps_ret pe_bl)) pss_nil)
    (pss_one (ps_ret (pe_cmpR (op_eqD hr.units) (pe_lc (own := [("_law_k", 3)]) (g := gName 3) (tt := _) rfl scDue.nd (pi_range1 rfl T.range (pa_cons (pe_op op_add (pe_op op_sub (pe_callB call_len_str (by rfl) T.len PySem.boot_len (pa_cons (pv 1) pa_nil)) (pv 2)) pe_int) pa_nil))
        (blkOk_by (N := nDue) (sc := defScope sDue) (by decide +kernel)) (fun _ _ _ _ _ => pg_name (i := 3) scDue.nd rfl (Or.inl rfl))
        (fun _ _ _ _ _ => pts_one (pt_cmpR (ninq_at rfl) (pe_slice sl_str (pv 1) (po_some (pv 3)) (po_some (pe_op op_add (pv 3) (pv 2)))) (pe_ix (ixT_at rfl) (pv 0) pe_int (fun _ _ => rfl)) (by rfl)))
        (fun _ _ _ _ _ => by exact pv 3)) (pe_lst pa_nil) (nomark _)))))), ?_⟩
  obtain ⟨a, a2, a3, a4, a5, rfl, e1, _, e2, e3, e4, e5⟩ := dt_judge hJ
  have hlz : (mkS z).length = z.length := mkS_length z
  have hz16 : (mkS z).length ≤ sizeLine := by rw [hlz, sizeLine_eq]; omega
  refine ⟨_, rfl, a, _, 0, .int k, rfl, rfl, SqT.of e1, rfl, ?_⟩
  refine ⟨_, rfl, _, rfl, hz16, _, rfl, _, _, rfl, rfl, _, rfl, ?_⟩
  refine ite2 (fun c => ?_) (fun c => ?_)
  · have c' : z.length < k := by have := of_decide_eq_true c; rw [hlz] at this; omega
    refine ⟨_, rfl, _, rfl, a, _, 1, .ref a2, rfl, rfl, SqT.of e1, rfl, a2, _, rfl, .inr (SqT.of e2), rfl, flat_words S, ?_⟩
    have e := q H (fun _ _ e => e)
    unfold acc at e
    rw [if_pos c', ← inV_word] at e
    exact e
  have c' : ¬ z.length < k := fun x => c (decide_eq_true (by rw [hlz]; omega))
  have eacc : acc k S Fi L Pc z = (decide (z.take (k - 1) ∈ Fi) && (decide (z.drop (z.length + 1 - k) ∈ L) && (wins k z).all fun p => decide (p ∈ Pc))) := by
    unfold acc
    rw [if_neg c']
  have k1 : (k : Int) - 1 = ((k - 1 : Nat) : Int) := by omega
  refine ⟨_, rfl, _, rfl, _, _, rfl, rfl, _, rfl, _, rfl, hz16, ?_⟩
  rw [k1, cut_head]
  refine ⟨_, rfl, a, _, 2, .ref a3, rfl, rfl, SqT.of e1, rfl, a3, _, rfl, .inr (SqT.of e3), rfl, flat_words Fi, _, rfl, ?_⟩
  rw [notIn_word]
  refine ite2 (fun e => ?_) (fun e => ?_)
  · have g := q H (fun _ _ e => e)
    rw [eacc, show decide (z.take (k - 1) ∈ Fi) = false by simpa using e] at g
    exact g
  have f1 : decide (z.take (k - 1) ∈ Fi) = true := by simpa using e
  refine ⟨_, rfl, _, rfl, _, rfl, hz16, _, rfl, _, _, rfl, rfl, _, _, rfl, rfl, _, rfl, _, rfl, hz16, ?_⟩
  have k2 : (((mkS z).length : Nat) : Int) - k + 1 = ((z.length + 1 - k : Nat) : Int) := by rw [hlz]; omega
  rw [k2, cut_tail (by omega)]
  refine ⟨_, rfl, a, _, 3, .ref a4, rfl, rfl, SqT.of e1, rfl, a4, _, rfl, .inr (SqT.of e4), rfl, flat_words L, _, rfl, ?_⟩
  rw [notIn_word]
  refine ite2 (fun e => ?_) (fun e => ?_)
  · have g := q H (fun _ _ e => e)
    rw [eacc, f1, show decide (z.drop (z.length + 1 - k) ∈ L) = false by simpa using e] at g
    exact g
  have f2 : decide (z.drop (z.length + 1 - k) ∈ L) = true := by simpa using e
  have hn : ((((mkS z).length : Nat) : Int) - k + 1).toNat = z.length + 1 - k := by rw [hlz]; omega
  refine ⟨_, rfl, _, rfl, hz16, _, rfl, _, _, rfl, rfl, _, _, rfl, rfl, _, rfl, by rw [hlz]; omega, by rw [hlz]; omega, fun D hD => ?_⟩
  rw [hn]
  refine lc_it (walk_range (lo := 0) (n := z.length + 1 - k)) (fun i H' => ∃ ns : List Int, H' D = some (.lst (ns.map V.int)) ∧ ns.length ≤ i ∧ ns.isEmpty = (((wins k z).take i).all fun p => decide (p ∈ Pc)) ∧ Same H H')
    ⟨[], upd_same, Nat.le_refl _, rfl, same_new hD _⟩ (fun _ _ _ _ => trivial) ?_ ?_
  · rintro i x H1 H2 hi ⟨ns, m1, m2, m3, s1⟩ ⟨rfl, rfl⟩
    refine ⟨rfl, _, rfl, _, rfl, _, rfl, _, rfl, _, rfl, _, _, rfl, rfl, _, rfl, _, rfl, hz16, ?_⟩
    rw [show ((0 : Int) + (i : Nat)) = (i : Nat) from Int.zero_add _, cut_win hi]
    refine ⟨_, rfl, a, _, 4, .ref a5, rfl, rfl, SqT.of (s1 _ _ e1), rfl, a5, _, rfl, .inr (SqT.of (s1 _ _ e5)), rfl, flat_words Pc, _, rfl, ?_⟩
    rw [notIn_word]
    refine ite2 (fun e => ?_) (fun e => ?_)
    · have e' : decide (win k z i ∈ Pc) = false := by simpa using e
      refine ⟨_, rfl, _, m1, by rw [List.length_map, sizeLine_eq]; omega, ns ++ [(i : Int)], ?_, ?_, ?_, fun b o e => ?_⟩
      · rw [upd_same, List.map_append]
        show some (HO.lst (_ ++ [V.int (0 + (i : Int))])) = _
        rw [Int.zero_add]
        rfl
      · rw [List.length_append]
        show ns.length + 1 ≤ _
        omega
      · rw [take_succ_wins hi, List.all_append]
        simp [e']
      · rw [upd_ne (ne_of_none e hD)]
        exact s1 b o e
    · have e' : decide (win k z i ∈ Pc) = true := by simpa using e
      refine ⟨ns, m1, by omega, ?_, s1⟩
      rw [take_succ_wins hi, List.all_append, ← m3]
      simp only [List.all_cons, List.all_nil, e', Bool.and_true]
  · rintro H1 ⟨ns, m1, m2, m3, s1⟩
    rw [List.take_of_length_le (by rw [wins_length]; exact Nat.le_refl _)] at m3
    refine ⟨(by show 0 ≤ sizeLine; decide), fun p hp => ?_⟩
    have s2 := same_new hp (.lst [])
    refine ⟨_, _, dp_ints (SqL.of (s2 _ _ m1)), .lst (SqL.of upd_same) .nil, shaped_ints ns, rfl, ?_⟩
    rw [eqv_nil, m3]
    have g := q (upd H1 p (.lst [])) (s1.trans s2)
    rw [eacc, f1, f2] at g
    exact g
/-! ### one word -/
abbrev nOne : List Str := ["_law_it", "_law_word", "_law_due"]
theorem scOne : FnScope nOne ["_law_it", "_law_word"] (defScope sOne) := ⟨rfl, rfl, rfl, by decide +kernel, rfl, by decide +kernel, by decide +kernel⟩
theorem len_one : ∀ vs H Q E, spOne vs H Q E → vs.length = (["_law_it", "_law_word"] : List Str).length := fun vs H Q E ⟨_, _, _, _, _, _, _, _, e, _⟩ => by
  rw [e]; rfl
theorem shows_bls (b : Bool) : Shows (.list [.bool b, .bool b, .bool b]) := by
  cases b
  · exact ⟨rfl, (by decide +kernel : (PyData.shown (.list [.bool false, .bool false, .bool false])).length ≤ 1000000), by simp [PyData.depth, PyData.depthAll]⟩
  · exact ⟨rfl, (by decide +kernel : (PyData.shown (.list [.bool true, .bool true, .bool true])).length ≤ 1000000), by simp [PyData.depth, PyData.depthAll]⟩
theorem ok_one {f fA fU : Addr} {fd fdA fdU : FuncData} (F : Fun K "_law_right" "_law_right" sOne f fd) (hrep : mg "repr" = none)
    (GU : FnOk P w K mg base CX0 1 fU fdU ["_law_it", "_law_word"] spAcc) (bU : Binds K fdU ["_law_it", "_law_word"] []) (kU : PySem.W.keepIn K (.ref fU) = true) (mU : mg "_law_accepted" = some (.ref fU))
    (GA : FnOk P w K mg base CX0 4 fA fdA ["judge", "text"] spAcc) (bA : Binds K fdA ["judge", "text"] []) (kA : PySem.W.keepIn K (.ref fA) = true) (qA : KBinds K fdA ["judge", "text"] ["text", "judge"] gRev gRev) (mA : mg "accepts" = some (.ref fA)) :
    FnG P w K mg base 5 f fd ["_law_it", "_law_word"] spOne := by
  refine FunG F scOne len_one (fun cdv A outer s H vs Q E hr hg h => ?_)
  obtain ⟨v, k, S, Fi, L, Pc, z, Sx, rfl, hJ, hk1, hk2, hz, hP, q⟩ := h
  have hr1 : Room 1 _ := hr.mono (by decide)
  have hu : (A.deeper (envOfC "_law_right" (defScope sOne) s.heap.objs.size f cdv)).units + 100 < cLine := by
    have z := hr.un
    omega
  refine ⟨_, pss_cons (ps_set (i := 2) scOne.nd rfl (Or.inl rfl) (pe_call GU hr1 rfl mU kU bU .nil pass0 (pa_cons (pv 0) (pa_cons (pv 1) pa_nil))))
    (pss_one (ps_ret (pe_cmpR op_eq
      (pe_callB (call_rep hg hu (fun _ => True)) (by rfl) hrep (by decide +kernel) (pa_cons (pe_lst (pa_cons (pe_call GA hr rfl mA kA bA .nil pass0 (pa_cons (pv 0) (pa_cons (pv 1) pa_nil))) (pa_cons (pe_callK0 GA hr mA kA qA pass0 (pk_cons (pv 1) (pk_cons (pv 0) pk_nil))) (pa_cons (pe_call GA hr rfl mA kA bA .nil pass0 (pa_cons (pv 0) (pa_cons (pv 1) pa_nil))) pa_nil)))) pa_nil))
      (pe_callB (call_rep hg hu (fun _ => True)) (by rfl) hrep (by decide +kernel) (pa_cons (pe_op op_rep (pe_lst (pa_cons (pv 2) pa_nil)) pe_int) pa_nil)) (nomark _)))), ?_⟩
  refine ⟨_, rfl, _, rfl, v, k, S, Fi, L, Pc, z, Sx, rfl, hJ, hk1, hk2, hz, hP, fun H1 s1 => ?_⟩
  refine ⟨_, rfl, _, rfl, v, k, S, Fi, L, Pc, z, Sx, rfl, dt_same hJ s1, hk1, hk2, hz, hP, fun H2 s2 => ?_⟩
  refine ⟨_, rfl, _, rfl, v, k, S, Fi, L, Pc, z, Sx, rfl, dt_same hJ (s1.trans s2), hk1, hk2, hz, hP, fun H3 s3 => ?_⟩
  refine ⟨_, rfl, _, rfl, v, k, S, Fi, L, Pc, z, Sx, rfl, dt_same hJ ((s1.trans s2).trans s3), hk1, hk2, hz, hP, fun H4 s4 => ⟨(by show 3 ≤ sizeLine; decide), fun l hl => ?_⟩⟩
  have s5 := same_new hl (.lst [V.bl (acc k S Fi L Pc z), V.bl (acc k S Fi L Pc z), V.bl (acc k S Fi L Pc z)])
  have fl : FlatD (.bl (acc k S Fi L Pc z)) (.bool (acc k S Fi L Pc z)) := rfl
  refine ⟨_, _, rfl, .lst upd_same trivial (.cons (.flat fl) (.cons (.flat fl) (.cons (.flat fl) .nil))), shows_bls _, _, rfl, (by show 1 ≤ sizeLine; decide), fun l2 hl2 => ?_⟩
  have s6 := same_new hl2 (.lst [V.bl (acc k S Fi L Pc z)])
  refine ⟨l2, 3, _, rfl, rfl, upd_same, by decide, by decide, (by show 1 * 3 ≤ sizeLine; decide), fun l3 hl3 => ?_⟩
  have s7 := same_new hl3 (.lst (List.replicate 3 [V.bl (acc k S Fi L Pc z)]).flatten)
  refine ⟨_, _, rfl, .lst upd_same trivial (.cons (.flat fl) (.cons (.flat fl) (.cons (.flat fl) .nil))), shows_bls _, rfl, ?_⟩
  rw [decide_eq_true rfl]
  exact q _ ((((((s1.trans s2).trans s3).trans s4).trans s5).trans s6).trans s7)
end
end Vf

set_option Elab.async false
set_option linter.all false
set_option maxRecDepth 100000
set_option maxHeartbeats 4000000
namespace Vf
open PySem PySem.Spec PyProof.Rows L2 L2.Vx Vs Vm
abbrev sWalked : Stmt := top 17
abbrev sBent : Stmt := top 18
/-! ### words along a judge's pieces, words bent -/
def spWalked : Sp := fun vs H Q _ => ∃ (d g : Addr) (sg : Wd) (v : V) (n k c : Nat) (S F L P : List Wd), vs = [.ref d, .str (mkS sg), v, .int n] ∧ GoodS sg ∧ Dt H (fun a => a ≠ d ∧ a ≠ g) v (judgeD k S F L P) ∧ SmallJ S F L P ∧ 1 ≤ k ∧ k ≤ 4 ∧ n ≤ 30 ∧ DeckAt c H d g ∧ c + 100 ≤ most ∧
  ∀ (y : Wd) (H' : Hp), y.length ≤ 40 → DeckAt (c + 100) H' d g → Keeps d g H H' → Q (.str (mkS y)) H'
def spBent : Sp := fun vs H Q _ => ∃ (d g : Addr) (sg z : Wd) (c : Nat), vs = [.ref d, .str (mkS sg), .str (mkS z)] ∧ GoodS sg ∧ z.length ≤ 2000 ∧ DeckAt c H d g ∧ c + 2 ≤ most ∧
  ∀ (y : Wd) (H' : Hp), y.length ≤ z.length + 1 → DeckAt (c + 2) H' d g → Keeps d g H H' → Q (.str (mkS y)) H'
theorem words_plain {L : List Wd} (h : SmallL L) : plainD (wordsD L) = true := by
  unfold wordsD
  simp only [plainD]
  refine plainAll_of fun x hx => ?_
  obtain ⟨z, hz, rfl⟩ := List.mem_map.mp hx
  exact plain_mkS (h.2 z hz).2
theorem words_depth (L : List Wd) : (wordsD L).depth ≤ 1 := by
  unfold wordsD
  simp only [PyData.depth]
  have : ∀ L : List Wd, PyData.depthAll (L.map fun z => PyData.str (mkS z)) = 0 := by
    intro L
    induction L with
    | nil => simp [PyData.depthAll]
    | cons z L ih => simp only [List.map_cons, PyData.depthAll, ih, PyData.depth, Nat.max_self]
  rw [this]
  exact Nat.le_refl _
theorem words_shaped {L : List Wd} (h : SmallL L) : SeqAt.shaped (wordsD L) = true := by
  unfold SeqAt.shaped
  rw [lay_plain _ (words_plain h), Bool.true_and]
  exact decide_eq_true (Nat.le_trans (words_depth L) (by decide))
theorem words_nil (L : List Wd) : PyData.eqv (wordsD L) (.tuple []) = L.isEmpty := by
  unfold wordsD
  cases L <;> simp [PyData.eqv, PyData.eqvAll]
theorem dt_words_of {H : Hp} {Sx : Addr → Prop} {a : Addr} {k : Nat} {S F L P : List Wd} (h : Dt H Sx (.ref a) (judgeD k S F L P)) : ∃ s f l p, H a = some (.tup [.int k, .ref s, .ref f, .ref l, .ref p]) ∧ Sx a ∧ Sx p ∧ Dt H Sx (.ref f) (wordsD F) ∧ Sx f ∧
    H f = some (.tup ((F.map mkS).map .str)) ∧ H p = some (.tup ((P.map mkS).map .str)) := by
  obtain ⟨a', xs, ea, e, xa, r⟩ := dt_tup h
  cases ea
  obtain ⟨v1, r1, rfl, h1, r⟩ := dtA_one r
  obtain ⟨v2, r2, rfl, h2, r⟩ := dtA_one r
  obtain ⟨v3, r3, rfl, h3, r⟩ := dtA_one r
  obtain ⟨v4, r4, rfl, h4, r⟩ := dtA_one r
  obtain ⟨v5, r5, rfl, h5, r⟩ := dtA_one r
  obtain rfl := dtA_nil r
  obtain rfl := dt_int h1
  obtain ⟨s2, rfl, _, e2⟩ := dt_words h2
  obtain ⟨s3, rfl, x3, e3⟩ := dt_words h3
  obtain ⟨s4, rfl, _, e4⟩ := dt_words h4
  obtain ⟨s5, rfl, x5, e5⟩ := dt_words h5
  exact ⟨s2, s3, s4, s5, e, xa, x5, h3, x3, e3, e5⟩
def signsD (us : Wd) : PyData := .list (us.map fun c => .str (mkS [c]))
theorem dt_signs {H : Hp} {D : Addr} {us : Wd} (e : H D = some (.lst (us.map fun c => V.str (mkS [c])))) : Dt H (fun _ => True) (.ref D) (signsD us) := by
  refine .lst e trivial ?_
  have : ∀ us : Wd, DtAll H (fun _ => True) (us.map fun c => V.str (mkS [c])) (us.map fun c => .str (mkS [c])) := by
    intro us
    induction us with
    | nil => exact .nil
    | cons z L ih => exact .cons (.flat (show FlatD (.str (mkS [z])) (.str (mkS [z])) from rfl)) ih
  exact this us
theorem signs_plain {us : Wd} (h : ∀ c ∈ us, c < 1000) : plainD (signsD us) = true := by
  unfold signsD
  simp only [plainD]
  refine plainAll_of fun x hx => ?_
  obtain ⟨z, hz, rfl⟩ := List.mem_map.mp hx
  exact plain_mkS fun c hc => by rw [List.mem_singleton.mp hc]; exact h z hz
theorem signs_shaped {us : Wd} (h : ∀ c ∈ us, c < 1000) : SeqAt.shaped (signsD us) = true := by
  unfold SeqAt.shaped
  rw [lay_plain _ (signs_plain h), Bool.true_and]
  refine decide_eq_true ?_
  unfold signsD
  simp only [PyData.depth]
  have : ∀ L : Wd, PyData.depthAll (L.map fun z => PyData.str (mkS [z])) = 0 := by
    intro L
    induction L with
    | nil => simp [PyData.depthAll]
    | cons z L ih => simp only [List.map_cons, PyData.depthAll, ih, PyData.depth, Nat.max_self]
  rw [this]
  decide
theorem signs_nil (us : Wd) : PyData.eqv (signsD us) (.list []) = us.isEmpty := by
  unfold signsD
  cases us <;> simp [PyData.eqv, PyData.eqvAll]
theorem cut_some (z : Wd) (j : Int) : ∃ y : Wd, cutS (mkS z) (some j) none = mkS y ∧ y.length ≤ z.length := by
  refine ⟨z.drop (HT.sIx z.length 0 (some j)), ?_, by rw [List.length_drop]; omega⟩
  unfold cutS
  rw [mkS_length, mkS_cps]
  have e2 : HT.sIx z.length z.length none = z.length := rfl
  rw [e2]
  show mkS ((z.drop _).take (z.length - _)) = _
  congr 1
  exact List.take_of_length_le (by rw [List.length_drop]; exact Nat.le_refl _)
section
variable {P : Program} {w : World} {K : PySem.W.Frag} {mg : Str → Option Value} {base : Heap}
abbrev nBent : List Str := ["_law_deck_here", "_law_abc", "_law_word", "_law_at"]
theorem scBent : FnScope nBent ["_law_deck_here", "_law_abc", "_law_word"] (defScope sBent) := ⟨rfl, rfl, rfl, by decide +kernel, rfl, by decide +kernel, by decide +kernel⟩
theorem ok_bent {f fW fP : Addr} {fd fdW fdP : FuncData} (F : Fun K "_law_bent" "_law_bent" sBent f fd) (T : TxtW mg fW fP)
    (GW : FnOk P w K mg base CX0 1 fW fdW ["_law_deck_here", "_law_many"] spDraw) (bW : Binds K fdW ["_law_deck_here", "_law_many"] []) (kW : PySem.W.keepIn K (.ref fW) = true)
    (GP : FnOk P w K mg base CX0 2 fP fdP ["_law_deck_here", "_law_some_here"] (spPick K)) (bP : Binds K fdP ["_law_deck_here", "_law_some_here"] []) (kP : PySem.W.keepIn K (.ref fP) = true) :
    FnOk P w K mg base CX0 3 f fd ["_law_deck_here", "_law_abc", "_law_word"] spBent := by
  refine F.ok scBent (fun vs H Q E h => ?_) (fun cdv A outer s H vs Q E hr h => ?_)
  · obtain ⟨d, g, sg, z, c, rfl, _⟩ := h
    rfl
  obtain ⟨d, g, sg, z, c, rfl, gs, hz, hD, hc, q⟩ := h
  have hr1 : Room 1 _ := hr.mono (by decide)
  refine ⟨_, pss_cons (ps_set (i := 3) scBent.nd rfl (Or.inl rfl) (pe_call GW hr1 rfl T.draw kW bW .nil pass0 (pa_cons (pv 0) (pa_cons (pe_op op_add (pe_callB call_len_str (by rfl) T.len PySem.boot_len (pa_cons (pv 2) pa_nil)) pe_int) pa_nil))))
    (pss_one (ps_ret (pe_op op_add_str (pe_op op_add_str (pe_slice sl_str (pv 2) po_none (po_some (pv 3))) (pe_call GP hr rfl T.pick kP bP .nil pass0 (pa_cons (pv 0) (pa_cons (pe_op op_cat (pe_callTy (cr_listText rfl) (by rfl) T.list (by decide +kernel) (pa_cons (pv 1) pa_nil)) (pe_lst (pa_cons pe_str pa_nil))) pa_nil))))
      (pe_slice sl_str (pv 2) (po_some (pe_op op_add (pv 3) pe_int)) po_none)))), ?_⟩
  have hlz : (mkS z).length = z.length := mkS_length z
  have hz16 : (mkS z).length ≤ sizeLine := by rw [hlz, sizeLine_eq]; omega
  have hls : (mkS sg).length = sg.length := mkS_length sg
  have sg4 := gs.2.1
  refine ⟨_, rfl, _, rfl, _, rfl, hz16, _, _, rfl, rfl, d, g, _, c, rfl, by omega, by rw [hlz]; omega, hD, by omega, fun r H1 r0 r1 hD1 k1 => ?_⟩
  obtain ⟨rn, rfl⟩ : ∃ rn : Nat, r = (rn : Int) := ⟨r.toNat, by omega⟩
  have hrn : rn ≤ z.length := by rw [hlz] at r1; omega
  refine ⟨_, rfl, _, rfl, _, rfl, _, rfl, hz16, ?_⟩
  rw [cut_head]
  refine ⟨_, rfl, _, rfl, _, rfl, by rw [hls, sizeLine_eq]; omega, fun p hp => ?_⟩
  have np := hD1.dn hp
  have s1 := same_new hp (.lst ((parts (mkS sg)).map V.str))
  refine ⟨(by show 1 ≤ sizeLine; decide), fun p2 hp2 => ?_⟩
  have s2 := same_new hp2 (.lst [V.str ""])
  have pl : ((parts (mkS sg)).map V.str).length = sg.length := by rw [List.length_map, List.length_map, mkS_cps]
  refine ⟨p, p2, _, _, rfl, rfl, s2 _ _ upd_same, upd_same, by rw [pl, sizeLine_eq]; show sg.length + 1 ≤ _; omega, fun p3 hp3 => ?_⟩
  have s3 := same_new hp3 (.lst ((parts (mkS sg)).map V.str ++ [V.str ""]))
  have np3 := ((hD1.same s1).same s2).dn hp3
  refine ⟨d, g, p3, _, c + 1, rfl, SqL.of upd_same, np3.1, np3.2, (by intro z; simp at z), by rw [List.length_append, pl]; show sg.length + 1 < _; omega, ((hD1.same s1).same s2).same s3, by omega, fun x H4 hx hD4 k4 => ?_⟩
  obtain ⟨y, rfl, yl⟩ : ∃ y : Wd, x = .str (mkS y) ∧ y.length ≤ 1 := by
    rcases List.mem_append.mp hx with h | h
    · obtain ⟨t, ht, rfl⟩ := List.mem_map.mp h
      obtain ⟨cc, _, rfl⟩ := List.mem_map.mp ht
      exact ⟨[cc], rfl, Nat.le_refl _⟩
    · rw [List.mem_singleton.mp h]
      exact ⟨[], congrArg V.str (by decide +kernel), Nat.zero_le _⟩
  refine ⟨_, _, rfl, rfl, ?_, ?_⟩
  · rw [mkS_length, mkS_length, List.length_take, sizeLine_eq]
    omega
  rw [mkS_append]
  refine ⟨_, rfl, _, rfl, _, _, rfl, rfl, _, rfl, _, rfl, hz16, ?_⟩
  have l1 : (z.take rn ++ y).length ≤ rn + 1 := by rw [List.length_append, List.length_take]; omega
  obtain ⟨u, eu, ul⟩ : ∃ u : Wd, cutS (mkS z) (some ((rn : Int) + 1)) none = mkS u ∧ u.length ≤ z.length - rn := by
    by_cases h : rn + 1 ≤ z.length
    · refine ⟨z.drop (rn + 1), ?_, by rw [List.length_drop]; omega⟩
      rw [show ((rn : Int) + 1) = ((rn + 1 : Nat) : Int) by omega]
      exact cut_tail h
    · refine ⟨[], ?_, by show 0 ≤ _; omega⟩
      unfold cutS
      rw [mkS_length, mkS_cps]
      have e1 : HT.sIx z.length 0 (some ((rn : Int) + 1)) = min (rn + 1) z.length := HT.sIx_nat _ _ (rn + 1)
      have e2 : HT.sIx z.length z.length none = z.length := rfl
      rw [e1, e2, show min (rn + 1) z.length = z.length by omega, Nat.sub_self, List.take_zero]
      rfl
  rw [eu]
  refine ⟨_, _, rfl, rfl, ?_, ?_⟩
  · rw [mkS_length, mkS_length, sizeLine_eq]
    omega
  rw [mkS_append]
  refine q _ H4 (by rw [List.length_append]; omega) hD4 (k1.trans ((Keeps.of ((s1.trans s2).trans s3)).trans k4))
abbrev nWalked : List Str := ["_law_deck_here", "_law_abc", "_law_it", "_law_size", "_law_wide", "_law_word", "_law_k", "_law_signs", "_law_sign"]
theorem scWalked : FnScope nWalked ["_law_deck_here", "_law_abc", "_law_it", "_law_size"] (defScope sWalked) := ⟨rfl, rfl, rfl, by decide +kernel, rfl, by decide +kernel, by decide +kernel⟩
theorem if_emp {c : Bool} {A B : Prop} (hA : c = true → A) (hB : c = false → B) : if c = true then A else B := by
  cases c
  · rw [if_neg (by decide)]; exact hB rfl
  · rw [if_pos rfl]; exact hA rfl
theorem ok_walked {f fW fP : Addr} {fd fdP : FuncData} (F : Fun K "_law_walked" "_law_walked" sWalked f fd) (T : TxtW mg fW fP)
    (GP : FnOk P w K mg base CX0 2 fP fdP ["_law_deck_here", "_law_some_here"] (spPick K)) (GT : FnOk P w K mg base CX0 2 fP fdP ["_law_deck_here", "_law_some_here"] spPickT) (bP : Binds K fdP ["_law_deck_here", "_law_some_here"] []) (kP : PySem.W.keepIn K (.ref fP) = true) :
    FnOk P w K mg base CX0 3 f fd ["_law_deck_here", "_law_abc", "_law_it", "_law_size"] spWalked := by
  refine F.ok scWalked (fun vs H Q E h => ?_) (fun cdv A outer s H vs Q E hr h => ?_)
  · obtain ⟨d, g, sg, v, n, k, c, S, F, L, P, rfl, _⟩ := h
    rfl
  obtain ⟨d, g, sg, v, n, k, c, S, Fi, L, Pc, rfl, gs, hJ, sj, hk1, hk4, hn, hD, hc, q⟩ := h
  refine ⟨_, pss_cons (ps_asg (pe_tup (pa_cons (pe_ix ix_tup (pv 2) pe_int (fun _ _ => rfl)) (pa_cons (pe_ifExp (pt_cmpR (op_eqD hr.units) (pe_ix ix_tup (pv 2) pe_int (fun _ _ => rfl)) (pe_tup pa_nil) (nomark _)) pe_str (pe_call GT hr rfl T.pick kP bP .nil pass0 (pa_cons (pv 0) (pa_cons (pe_ix ix_tup (pv 2) pe_int (fun _ _ => rfl)) pa_nil)))) pa_nil)))
      (pg_tup rfl (pgs_cons (pg_name (i := 4) scWalked.nd rfl (Or.inr rfl)) (pgs_cons (pg_name (i := 5) scWalked.nd rfl (Or.inr rfl)) pgs_nil))))
    (pss_cons (ps_for PassesOwn.never rfl (pi_range1 rfl T.range (pa_cons (pv 3) pa_nil)) (pg_name (i := 6) scWalked.nd rfl (Or.inl rfl))
      (pss_cons (ps_setLc (i := 7) (own := [("_law_sign", 8)]) (g := gName 8) (tt := _) rfl scWalked.nd rfl rfl (sw_true rfl rfl rfl (by decide +kernel)) (pi_str (pv 1))
        (blkOk_by (N := nWalked) (sc := defScope sWalked) (by decide +kernel)) (fun _ _ _ _ _ => pg_name (i := 8) scWalked.nd rfl (Or.inl rfl))
        (fun _ _ _ _ _ => pts_one (pt_cmpR (inq_at rfl) (pe_op op_add_str (pe_slice sl_str (pv 5) (po_some (pe_op op_add (pe_op op_sub (pe_callB call_len_str (by rfl) T.len PySem.boot_len (pa_cons (pv 5) pa_nil)) (pv 4)) pe_int)) po_none) (pv 8)) (pe_ix (ixT_at rfl) (pv 2) pe_int (fun _ _ => rfl)) (by rfl)))
        (fun _ _ _ _ _ => by exact pv 8))
      (pss_cons (ps_if (PW.pt (pw_or (pt_cmpR (op_eqD hr.units) (pv 7) (pe_lst pa_nil) (nomark _)) (pw_or1 (pt_cmpR op_lt (pe_callB call_len_str (by rfl) T.len PySem.boot_len (pa_cons (pv 5) pa_nil)) (pe_op op_sub (pv 4) pe_int) (nomark _))))) (pss_one (ps_ret (pv 5))) pss_nil)
      (pss_one (ps_set (i := 5) scWalked.nd rfl (Or.inr rfl) (pe_op op_add_str (pv 5) (pe_call GP hr rfl T.pick kP bP .nil pass0 (pa_cons (pv 0) (pa_cons (pv 7) pa_nil)))))))))
    (pss_one (ps_ret (pv 5)))), ?_⟩
  obtain ⟨a, xs0, rfl, _⟩ := dt_tup hJ
  obtain ⟨s0, f0, l0, p0, e1, xa, xP0, dF, xF, eF, eP⟩ := dt_words_of hJ
  refine ⟨_, rfl, a, _, 0, .int k, rfl, rfl, SqT.of e1, rfl, ?_⟩
  refine ⟨_, rfl, a, _, 2, .ref f0, rfl, rfl, SqT.of e1, rfl, (by show 0 ≤ sizeLine; decide), fun p hp => ?_⟩
  have s1 := same_new hp (.tup [])
  have np := hD.dn hp
  refine ⟨_, _, dt_dp (dt_same dF s1) (words_plain sj.f), .tup (SqT.of upd_same) .nil, words_shaped sj.f, rfl, _, rfl, ?_⟩
  rw [words_nil]
  have xP : p0 ≠ d ∧ p0 ≠ g := xP0
  refine ite2 (fun _ => ?_) (fun hne => ?_)
  · have k1 : Keeps d g H (upd H p (.tup [])) := Keeps.of s1
    have hD1 : DeckAt (c + 1) (upd H p (.tup [])) d g := (hD.same s1).le (by omega)
    obtain ⟨z, ez⟩ : ∃ z : Wd, mkS z = ("" : Str) ∧ z.length ≤ 4 + 0 := ⟨[], by decide +kernel, Nat.zero_le _⟩
    have zl := ez.2
    rw [← ez.1]
    generalize upd H p (.tup []) = H1 at k1 hD1 ⊢
    refine ⟨(by show 2 ≤ sizeLine; decide), fun tp htp => ?_⟩
    have st := same_new htp (.tup [.int k, .str (mkS z)])
    refine ⟨tp, _, rfl, SqT.of upd_same, rfl, _, _, rfl, _, _, rfl, rfl, ?_⟩
    have hD2 := hD1.same st
    have k2 := k1.trans (Keeps.of st)
    refine ⟨_, rfl, _, rfl, by omega, by omega, ?_⟩
    rw [show ((n : Int)).toNat = n by omega]
    refine for_range (lo := 0) (n := n) (fun i σ H' => ∃ (v6 v7 : Option V) (y : Wd), σ = [some (.ref d), some (.str (mkS sg)), some (.ref a), some (.int n), some (.int k), some (.str (mkS y)), v6, v7, none] ∧ y.length ≤ 4 + i ∧ DeckAt (c + 1 + i) H' d g ∧ Keeps d g H H')
      ⟨none, none, z, rfl, zl, hD2, k2⟩ ?_ ?_
    · rintro i σ H3 hi ⟨v6, v7, y, rfl, yl, hD3, k3⟩
      have hly : (mkS y).length = y.length := mkS_length y
      have hy16 : (mkS y).length ≤ sizeLine := by rw [hly, sizeLine_eq]; omega
      have e3 := k3 _ _ xa.1 xa.2 e1
      have eP3 := k3 _ _ xP.1 xP.2 eP
      refine ⟨_, rfl, _, rfl, fun D hDD => ?_⟩
      have nD := hD3.dn hDD
      refine lc_it walk_str (fun i' H' => ∃ us : Wd, H' D = some (.lst ((us.map fun c => V.str (mkS [c])))) ∧ us.length ≤ i' ∧ (∀ c ∈ us, c < 1000) ∧ Same H3 H') ⟨[], upd_same, Nat.le_refl _, (fun c h => nomatch h), same_new hDD _⟩ (fun _ _ _ _ => trivial) ?_ ?_
      · rintro i' x H4 H5 hi' ⟨us, m1, m2, m3, s4⟩ ⟨rfl, cc, hcc, rfl⟩
        have hc1000 : cc < 1000 := by
          refine Nat.lt_of_le_of_lt (gs.2.2 cc ?_).2 (by decide)
          rw [← Array.getElem?_toList, mkS_cps] at hcc
          exact List.mem_of_getElem? hcc
        refine ⟨rfl, _, rfl, _, rfl, _, rfl, hy16, _, rfl, _, _, rfl, rfl, _, _, rfl, rfl, _, rfl, _, rfl, hy16, ?_⟩
        obtain ⟨u, eu, ul⟩ := cut_some y (((mkS y).length : Nat) - (k : Int) + 1)
        rw [eu]
        refine ⟨_, rfl, _, _, rfl, rfl, ?_, ?_⟩
        · show (mkS u).length + (mkS [cc]).length ≤ sizeLine
          rw [mkS_length, mkS_length, sizeLine_eq]
          show u.length + 1 ≤ _
          omega
        show tOp _ _ _ _ _ _
        refine ⟨_, rfl, a, _, 4, .ref p0, rfl, rfl, SqT.of (s4 _ _ e3), rfl, p0, _, rfl, .inr (SqT.of (s4 _ _ eP3)), rfl, flat_words Pc, _, rfl, ?_⟩
        refine ite2 (fun _ => ?_) (fun _ => ?_)
        · have hl5 : (mkS sg).cps.size = sg.length := mkS_length sg
          refine ⟨_, rfl, _, m1, by rw [List.length_map, sizeLine_eq]; have := gs.2.1; omega, us ++ [cc], ?_, by rw [List.length_append]; show us.length + 1 ≤ _; omega, fun x hx => ?_, fun b o e => ?_⟩
          · rw [upd_same, List.map_append]
            rfl
          · rcases List.mem_append.mp hx with h | h
            · exact m3 x h
            · rw [List.mem_singleton.mp h]; exact hc1000
          · rw [upd_ne (ne_of_none e hDD)]
            exact s4 b o e
        · exact ⟨us, m1, by omega, m3, s4⟩
      rintro H4 ⟨us, m1, m2, m3, s4⟩
      have hl5 : (mkS sg).cps.size = sg.length := mkS_length sg
      have sg4 := gs.2.1
      have hD4 := hD3.same s4
      refine ⟨_, rfl, (by show 0 ≤ sizeLine; decide), fun p4 hp4 => ?_⟩
      have s5 := same_new hp4 (.lst [])
      have m15 := s5 _ _ m1
      have hD5 := hD4.same s5
      have s45 := s4.trans s5
      have epn : upd H4 p4 (.lst []) p4 = some (.lst []) := upd_same
      generalize upd H4 p4 (.lst []) = H5 at m15 hD5 s45 epn ⊢
      have sd : Dt H5 (fun _ => True) (.ref D) (signsD us) := dt_signs m15
      refine ⟨_, _, dt_dp sd (signs_plain m3), .lst (SqL.of epn) .nil, signs_shaped m3, rfl, _, rfl, ?_⟩
      rw [signs_nil]
      refine ite2 (fun _ => ?_) (fun hne2 => ?_)
      · exact ⟨_, rfl, q y H5 (by omega) (hD5.le (by omega)) (k3.trans (Keeps.of s45))⟩
      refine ⟨_, rfl, _, rfl, hy16, _, rfl, _, _, rfl, rfl, _, _, rfl, rfl, _, rfl, ?_⟩
      refine ite2 (fun _ => ?_) (fun _ => ?_)
      · exact ⟨_, rfl, q y H5 (by omega) (hD5.le (by omega)) (k3.trans (Keeps.of s45))⟩
      refine ⟨_, rfl, _, rfl, _, rfl, d, g, D, _, c + 1 + i, rfl, SqL.of m15, nD.1, nD.2, (by intro z; exact hne2 (by rw [List.map_eq_nil_iff.mp z]; rfl)), by rw [List.length_map]; omega, hD5, by omega, fun x H6 hx hD6 k6 => ?_⟩
      obtain ⟨cc, _, rfl⟩ := List.mem_map.mp hx
      refine ⟨_, _, rfl, rfl, by rw [mkS_length, mkS_length, sizeLine_eq]; show y.length + 1 ≤ _; omega, ?_⟩
      rw [mkS_append]
      exact ⟨_, _, y ++ [cc], rfl, by rw [List.length_append]; show y.length + 1 ≤ _; omega, hD6.le (by omega), (k3.trans (Keeps.of s45)).trans k6⟩
    · rintro σ H3 ⟨v6, v7, y, rfl, yl, hD3, k3⟩
      exact ⟨_, rfl, q y H3 (by omega) (hD3.le (by omega)) k3⟩
  · have hne' : Fi ≠ [] := fun e => hne (by rw [e]; rfl)
    refine ⟨_, rfl, _, rfl, a, _, 2, .ref f0, rfl, rfl, SqT.of (s1 _ _ e1), rfl, d, g, f0, _, c, rfl, s1 _ _ eF, xF.1, xF.2, (by intro z; exact hne' (by simpa using z)), by rw [List.length_map, List.length_map]; have := sj.f.1; omega, hD.same s1, by omega, fun x H1 hx hD1 k0 => ?_⟩
    have k1 := (Keeps.of (d := d) (g := g) s1).trans k0
    obtain ⟨z, hz, rfl⟩ : ∃ z, z ∈ Fi ∧ x = .str (mkS z) := by
      rw [List.map_map] at hx
      obtain ⟨z, hz, e⟩ := List.mem_map.mp hx
      exact ⟨z, hz, e.symm⟩
    have zl : z.length ≤ 4 + 0 := (sj.f.2 z hz).1
    refine ⟨(by show 2 ≤ sizeLine; decide), fun tp htp => ?_⟩
    have st := same_new htp (.tup [.int k, .str (mkS z)])
    refine ⟨tp, _, rfl, SqT.of upd_same, rfl, _, _, rfl, _, _, rfl, rfl, ?_⟩
    have hD2 := hD1.same st
    have k2 := k1.trans (Keeps.of st)
    refine ⟨_, rfl, _, rfl, by omega, by omega, ?_⟩
    rw [show ((n : Int)).toNat = n by omega]
    refine for_range (lo := 0) (n := n) (fun i σ H' => ∃ (v6 v7 : Option V) (y : Wd), σ = [some (.ref d), some (.str (mkS sg)), some (.ref a), some (.int n), some (.int k), some (.str (mkS y)), v6, v7, none] ∧ y.length ≤ 4 + i ∧ DeckAt (c + 1 + i) H' d g ∧ Keeps d g H H')
      ⟨none, none, z, rfl, zl, hD2, k2⟩ ?_ ?_
    · rintro i σ H3 hi ⟨v6, v7, y, rfl, yl, hD3, k3⟩
      have hly : (mkS y).length = y.length := mkS_length y
      have hy16 : (mkS y).length ≤ sizeLine := by rw [hly, sizeLine_eq]; omega
      have e3 := k3 _ _ xa.1 xa.2 e1
      have eP3 := k3 _ _ xP.1 xP.2 eP
      refine ⟨_, rfl, _, rfl, fun D hDD => ?_⟩
      have nD := hD3.dn hDD
      refine lc_it walk_str (fun i' H' => ∃ us : Wd, H' D = some (.lst ((us.map fun c => V.str (mkS [c])))) ∧ us.length ≤ i' ∧ (∀ c ∈ us, c < 1000) ∧ Same H3 H') ⟨[], upd_same, Nat.le_refl _, (fun c h => nomatch h), same_new hDD _⟩ (fun _ _ _ _ => trivial) ?_ ?_
      · rintro i' x H4 H5 hi' ⟨us, m1, m2, m3, s4⟩ ⟨rfl, cc, hcc, rfl⟩
        have hc1000 : cc < 1000 := by
          refine Nat.lt_of_le_of_lt (gs.2.2 cc ?_).2 (by decide)
          rw [← Array.getElem?_toList, mkS_cps] at hcc
          exact List.mem_of_getElem? hcc
        refine ⟨rfl, _, rfl, _, rfl, _, rfl, hy16, _, rfl, _, _, rfl, rfl, _, _, rfl, rfl, _, rfl, _, rfl, hy16, ?_⟩
        obtain ⟨u, eu, ul⟩ := cut_some y (((mkS y).length : Nat) - (k : Int) + 1)
        rw [eu]
        refine ⟨_, rfl, _, _, rfl, rfl, ?_, ?_⟩
        · show (mkS u).length + (mkS [cc]).length ≤ sizeLine
          rw [mkS_length, mkS_length, sizeLine_eq]
          show u.length + 1 ≤ _
          omega
        show tOp _ _ _ _ _ _
        refine ⟨_, rfl, a, _, 4, .ref p0, rfl, rfl, SqT.of (s4 _ _ e3), rfl, p0, _, rfl, .inr (SqT.of (s4 _ _ eP3)), rfl, flat_words Pc, _, rfl, ?_⟩
        refine ite2 (fun _ => ?_) (fun _ => ?_)
        · have hl5 : (mkS sg).cps.size = sg.length := mkS_length sg
          refine ⟨_, rfl, _, m1, by rw [List.length_map, sizeLine_eq]; have := gs.2.1; omega, us ++ [cc], ?_, by rw [List.length_append]; show us.length + 1 ≤ _; omega, fun x hx => ?_, fun b o e => ?_⟩
          · rw [upd_same, List.map_append]
            rfl
          · rcases List.mem_append.mp hx with h | h
            · exact m3 x h
            · rw [List.mem_singleton.mp h]; exact hc1000
          · rw [upd_ne (ne_of_none e hDD)]
            exact s4 b o e
        · exact ⟨us, m1, by omega, m3, s4⟩
      rintro H4 ⟨us, m1, m2, m3, s4⟩
      have hl5 : (mkS sg).cps.size = sg.length := mkS_length sg
      have sg4 := gs.2.1
      have hD4 := hD3.same s4
      refine ⟨_, rfl, (by show 0 ≤ sizeLine; decide), fun p4 hp4 => ?_⟩
      have s5 := same_new hp4 (.lst [])
      have m15 := s5 _ _ m1
      have hD5 := hD4.same s5
      have s45 := s4.trans s5
      have epn : upd H4 p4 (.lst []) p4 = some (.lst []) := upd_same
      generalize upd H4 p4 (.lst []) = H5 at m15 hD5 s45 epn ⊢
      have sd : Dt H5 (fun _ => True) (.ref D) (signsD us) := dt_signs m15
      refine ⟨_, _, dt_dp sd (signs_plain m3), .lst (SqL.of epn) .nil, signs_shaped m3, rfl, _, rfl, ?_⟩
      rw [signs_nil]
      refine ite2 (fun _ => ?_) (fun hne2 => ?_)
      · exact ⟨_, rfl, q y H5 (by omega) (hD5.le (by omega)) (k3.trans (Keeps.of s45))⟩
      refine ⟨_, rfl, _, rfl, hy16, _, rfl, _, _, rfl, rfl, _, _, rfl, rfl, _, rfl, ?_⟩
      refine ite2 (fun _ => ?_) (fun _ => ?_)
      · exact ⟨_, rfl, q y H5 (by omega) (hD5.le (by omega)) (k3.trans (Keeps.of s45))⟩
      refine ⟨_, rfl, _, rfl, _, rfl, d, g, D, _, c + 1 + i, rfl, SqL.of m15, nD.1, nD.2, (by intro z; exact hne2 (by rw [List.map_eq_nil_iff.mp z]; rfl)), by rw [List.length_map]; omega, hD5, by omega, fun x H6 hx hD6 k6 => ?_⟩
      obtain ⟨cc, _, rfl⟩ := List.mem_map.mp hx
      refine ⟨_, _, rfl, rfl, by rw [mkS_length, mkS_length, sizeLine_eq]; show y.length + 1 ≤ _; omega, ?_⟩
      rw [mkS_append]
      exact ⟨_, _, y ++ [cc], rfl, by rw [List.length_append]; show y.length + 1 ≤ _; omega, hD6.le (by omega), (k3.trans (Keeps.of s45)).trans k6⟩
    · rintro σ H3 ⟨v6, v7, y, rfl, yl, hD3, k3⟩
      exact ⟨_, rfl, q y H3 (by omega) (hD3.le (by omega)) k3⟩
end
end Vf

set_option Elab.async false
set_option linter.all false
set_option maxRecDepth 100000
set_option maxHeartbeats 4000000
namespace Vf
open PySem PySem.Spec PyProof.Rows L2 L2.Vx Vs Vm
abbrev sLong : Stmt := top 20
/-! ### a long word -/
def spLong : Sp := fun vs H Q _ => ∃ (d g : Addr) (c : Nat), vs = [.ref d] ∧ DeckAt c H d g ∧ c + 100 ≤ most ∧ ∀ H', Q (.bl true) H'
structure TxtG (mg : Str → Option Value) (fW fP fR : Addr) : Prop extends TxtW mg fW fP where
  sorted : mg "sorted" = none
  set : mg "set" = none
  right : mg "_law_right" = some (.ref fR)
theorem if_fl {A B : Prop} {c : Bool} (e : c = false) (h : B) : if c = true then A else B := by
  rw [e]
  exact h
theorem cut_after (z : Wd) (rn : Nat) (hrn : rn ≤ z.length) : ∃ u : Wd, cutS (mkS z) (some ((rn : Int) + 1)) none = mkS u ∧ u.length ≤ z.length - rn := by
  by_cases h : rn + 1 ≤ z.length
  · refine ⟨z.drop (rn + 1), ?_, by rw [List.length_drop]; omega⟩
    rw [show ((rn : Int) + 1) = ((rn + 1 : Nat) : Int) by omega]
    exact cut_tail h
  · refine ⟨[], ?_, Nat.zero_le _⟩
    unfold cutS
    rw [mkS_length, mkS_cps]
    have e1 : HT.sIx z.length 0 (some ((rn : Int) + 1)) = min (rn + 1) z.length := HT.sIx_nat _ _ (rn + 1)
    have e2 : HT.sIx z.length z.length none = z.length := rfl
    rw [e1, e2, show min (rn + 1) z.length = z.length by omega, Nat.sub_self, List.take_zero]
    rfl
/-- a pair of signs and a width -/
def PairAt (H : Hp) (x : V) : Prop := ∃ (t : Addr) (z : Wd) (k : Nat), x = .ref t ∧ H t = some (.tup [.str (mkS z), .int k]) ∧ GoodS z ∧ 1 ≤ k ∧ k ≤ 8
theorem PairAt.of {H : Hp} {t : Addr} {s : Str} {k : Int} (e : H t = some (.tup [.str s, .int k])) (z : Wd) (j : Nat) (hz : s = mkS z) (hj : k = (j : Nat)) (g : GoodS z) (h1 : 1 ≤ j) (h2 : j ≤ 8) : PairAt H (.ref t) := by
  subst hz
  subst hj
  exact ⟨t, z, j, rfl, e, g, h1, h2⟩
theorem good_ab : GoodS [97, 98] := (by decide : 1 ≤ [97, 98].length ∧ [97, 98].length ≤ 4 ∧ ∀ c ∈ [97, 98], 97 ≤ c ∧ c ≤ 122)
theorem good_a : GoodS [97] := (by decide : 1 ≤ [97].length ∧ [97].length ≤ 4 ∧ ∀ c ∈ [97], 97 ≤ c ∧ c ≤ 122)
theorem good_abc : GoodS [97, 98, 99] := (by decide : 1 ≤ [97, 98, 99].length ∧ [97, 98, 99].length ≤ 4 ∧ ∀ c ∈ [97, 98, 99], 97 ≤ c ∧ c ≤ 122)
theorem good_bdfz : GoodS [98, 100, 102, 122] := (by decide : 1 ≤ [98, 100, 102, 122].length ∧ [98, 100, 102, 122].length ≤ 4 ∧ ∀ c ∈ [98, 100, 102, 122], 97 ≤ c ∧ c ≤ 122)
section
variable {P : Program} {w : World} {K : PySem.W.Frag} {mg : Str → Option Value} {base : Heap}
abbrev nLong : List Str := ["_law_deck_here", "_law_abc", "_law_wide", "_law_block", "_law_word", "_law_bits", "_law_it", "_law_at", "_law_some_here", "_law_k", "_law_one"]
theorem scLong : FnScope nLong ["_law_deck_here"] (defScope sLong) := ⟨rfl, rfl, rfl, by decide +kernel, rfl, by decide +kernel, by decide +kernel⟩
theorem len_long : ∀ vs H Q E, spLong vs H Q E → vs.length = (["_law_deck_here"] : List Str).length := fun vs H Q E ⟨_, _, _, e, _⟩ => by
  rw [e]; rfl
theorem ok_long {f fW fP fR : Addr} {fd fdW fdP fdR : FuncData} (F : Fun K "_law_long_right" "_law_long_right" sLong f fd) (T : TxtG mg fW fP fR)
    (GW : FnOk P w K mg base CX0 1 fW fdW ["_law_deck_here", "_law_many"] spDraw) (bW : Binds K fdW ["_law_deck_here", "_law_many"] []) (kW : PySem.W.keepIn K (.ref fW) = true)
    (GP : FnOk P w K mg base CX0 2 fP fdP ["_law_deck_here", "_law_some_here"] (spPick K)) (GS : FnOk P w K mg base CX0 2 fP fdP ["_law_deck_here", "_law_some_here"] spPickS) (bP : Binds K fdP ["_law_deck_here", "_law_some_here"] []) (kP : PySem.W.keepIn K (.ref fP) = true)
    (GR : FnG P w K mg base 5 fR fdR ["_law_it", "_law_word"] spOne) (bR : Binds K fdR ["_law_it", "_law_word"] []) (kR : PySem.W.keepIn K (.ref fR) = true) :
    FnG P w K mg base 6 f fd ["_law_deck_here"] spLong := by
  refine FunG F scLong len_long (fun cdv A outer s H vs Q E hr hg h => ?_)
  obtain ⟨d, g, c, rfl, hD, hc, q⟩ := h
  have hr1 : Room 1 _ := hr.mono (by decide)
  have hr2 : Room 2 _ := hr.mono (by decide)
  have hu : (A.deeper (envOfC "_law_long_right" (defScope sLong) s.heap.objs.size f cdv)).units + 64 < cLine := by
    have z := hr.un
    omega
  refine ⟨_, pss_cons (ps_asg (pe_call GP hr2 rfl T.pick kP bP .nil pass0 (pa_cons (pv 0) (pa_cons (pe_lst (pa_cons (pe_tup (pa_cons pe_str (pa_cons pe_int pa_nil))) (pa_cons (pe_tup (pa_cons pe_str (pa_cons pe_int pa_nil))) (pa_cons (pe_tup (pa_cons pe_str (pa_cons pe_int pa_nil))) (pa_cons (pe_tup (pa_cons pe_str (pa_cons pe_int pa_nil))) (pa_cons (pe_tup (pa_cons pe_str (pa_cons pe_int pa_nil))) pa_nil)))))) pa_nil)))
      (pg_tup rfl (pgs_cons (pg_name (i := 1) scLong.nd rfl (Or.inr rfl)) (pgs_cons (pg_name (i := 2) scLong.nd rfl (Or.inr rfl)) pgs_nil))))
    (pss_cons (ps_set (i := 3) scLong.nd rfl (Or.inl rfl) (pe_join pe_str (pe_lc (own := [("_law_k", 9)]) (g := gName 9) (tt := tYes) rfl scLong.nd
        (pi_range1 rfl T.range (pa_cons (pe_op op_add pe_int (pe_call GW hr1 rfl T.draw kW bW .nil pass0 (pa_cons (pv 0) (pa_cons pe_int pa_nil)))) pa_nil))
        (blkOk_by (N := nLong) (sc := defScope sLong) (by decide +kernel)) (fun _ _ _ _ _ => pg_name (i := 9) scLong.nd rfl (Or.inl rfl)) (fun _ _ _ _ _ => pts_nil)
        (fun _ _ _ _ _ => by exact pe_call GS hr2 rfl T.pick kP bP .nil pass0 (pa_cons (pv 0) (pa_cons (pv 1) pa_nil))))))
    (pss_cons (ps_set (i := 4) scLong.nd rfl (Or.inr rfl) (pe_slice sl_str (pe_op op_mul_str (pv 3) pe_int) po_none (po_some (pe_op op_add pe_int (pe_call GW hr1 rfl T.draw kW bW .nil pass0 (pa_cons (pv 0) (pa_cons pe_int pa_nil)))))))
    (pss_cons (ps_set (i := 5) scLong.nd rfl (Or.inl rfl) (pe_callTy call_tuple_of (by rfl) T.tuple (by decide +kernel) (pa_cons (pe_callB (cr_sortedTxAt (P := P) (w := w) rfl rfl rfl) (by rfl) T.sorted (by decide +kernel) (pa_cons (pe_callTy (cr_setListAt (P := P) (w := w) rfl rfl rfl) (by rfl) T.set (by decide +kernel) (pa_cons (pe_lc (own := [("_law_k", 9)]) (g := gName 9) (tt := tYes) rfl scLong.nd
        (pi_range1 rfl T.range (pa_cons (pe_op op_add (pe_op op_sub (pe_callB call_len_str (by rfl) T.len PySem.boot_len (pa_cons (pv 4) pa_nil)) (pv 2)) pe_int) pa_nil))
        (blkOk_by (N := nLong) (sc := defScope sLong) (by decide +kernel)) (fun _ _ _ _ _ => pg_name (i := 9) scLong.nd rfl (Or.inl rfl)) (fun _ _ _ _ _ => pts_nil)
        (fun _ _ _ _ _ => by exact pe_slice sl_str (pv 4) (po_some (pv 9)) (po_some (pe_op op_add (pv 9) (pv 2))))) pa_nil)) pa_nil)) pa_nil)))
    (pss_cons (ps_set (i := 6) scLong.nd rfl (Or.inr rfl) (pe_tup (pa_cons (pv 2) (pa_cons (pe_tup pa_nil) (pa_cons (pe_tup (pa_cons (pe_slice sl_str (pv 4) po_none (po_some (pe_op op_sub (pv 2) pe_int))) pa_nil))
        (pa_cons (pe_tup (pa_cons (pe_slice sl_str (pv 4) (po_some (pe_op op_add (pe_op op_sub (pe_callB call_len_str (by rfl) T.len PySem.boot_len (pa_cons (pv 4) pa_nil)) (pv 2)) pe_int)) po_none) pa_nil)) (pa_cons (pv 5) pa_nil)))))))
    (pss_cons (ps_set (i := 7) scLong.nd rfl (Or.inl rfl) (pe_call GW hr1 rfl T.draw kW bW .nil pass0 (pa_cons (pv 0) (pa_cons (pe_callB call_len_str (by rfl) T.len PySem.boot_len (pa_cons (pv 4) pa_nil)) pa_nil))))
    (pss_cons (ps_set (i := 8) scLong.nd rfl (Or.inl rfl) (pe_lst (pa_cons (pv 4) (pa_cons (pe_op op_add_str (pe_op op_add_str (pe_slice sl_str (pv 4) po_none (po_some (pv 7))) (pe_call GS hr2 rfl T.pick kP bP .nil pass0 (pa_cons (pv 0) (pa_cons (pv 1) pa_nil)))) (pe_slice sl_str (pv 4) (po_some (pe_op op_add (pv 7) pe_int)) po_none))
        (pa_cons (pe_slice sl_str (pv 4) (po_some pe_int) po_none) (pa_cons (pe_slice sl_str (pv 4) po_none (po_some (pv 2))) (pa_cons (pe_slice sl_str (pv 4) po_none (po_some (pe_op op_sub (pv 2) pe_int))) pa_nil)))))))
    (pss_one (ps_ret (pe_cmpR (op_eqD hu) (pe_lc (own := [("_law_one", 10)]) (g := gName 10) (tt := _) rfl scLong.nd (pi_list (pv 8))
        (blkOk_by (N := nLong) (sc := defScope sLong) (by decide +kernel)) (fun _ _ _ _ _ => pg_name (i := 10) scLong.nd rfl (Or.inl rfl))
        (fun _ _ _ _ _ => pts_one (pt_not (pt_val (pe_callG GR len_one hg hr rfl T.right kR bR .nil pass0 (pa_cons (pv 6) (pa_cons (pv 10) pa_nil))))))
        (fun _ _ _ _ _ => by exact pv 10)) (pe_lst pa_nil) (nomark _)))))))))), ?_⟩
  refine ⟨_, rfl, (by show 2 ≤ sizeLine; decide), fun t1 h1 => ⟨(by show 2 ≤ sizeLine; decide), fun t2 h2 => ⟨(by show 2 ≤ sizeLine; decide), fun t3 h3 => ⟨(by show 2 ≤ sizeLine; decide), fun t4 h4 => ⟨(by show 2 ≤ sizeLine; decide), fun t5 h5 => ⟨(by show 5 ≤ sizeLine; decide), fun l hl => ?_⟩⟩⟩⟩⟩⟩
  have a1 := same_new h1 (.tup [.str "ab", .int 8])
  have a2 := same_new h2 (.tup [.str "a", .int 8])
  have a3 := same_new h3 (.tup [.str "ab", .int 5])
  have a4 := same_new h4 (.tup [.str "abc", .int 5])
  have a5 := same_new h5 (.tup [.str "bdfz", .int 4])
  have a6 := same_new hl (.lst [.ref t1, .ref t2, .ref t3, .ref t4, .ref t5])
  have D1 := hD.same a1
  have D2 := D1.same a2
  have D3 := D2.same a3
  have D4 := D3.same a4
  have D5 := D4.same a5
  have n1 := hD.dn h1
  have n2 := D1.dn h2
  have n3 := D2.dn h3
  have n4 := D3.dn h4
  have n5 := D4.dn h5
  have nl := D5.dn hl
  refine ⟨d, g, l, [.ref t1, .ref t2, .ref t3, .ref t4, .ref t5], c, rfl, SqL.of upd_same, nl.1, nl.2, (by intro z; cases z), (by show 5 < 1000000; decide), D5.same a6, by omega, fun x H7 hx hD7 k7 => ?_⟩
  obtain ⟨t, sg, k, rfl, et, gs, k1, k8⟩ : PairAt H7 x := by
    simp only [List.mem_cons, List.not_mem_nil, or_false] at hx
    rcases hx with rfl | rfl | rfl | rfl | rfl
    · exact .of (k7 _ _ n1.1 n1.2 (a6 _ _ (a5 _ _ (a4 _ _ (a3 _ _ (a2 _ _ upd_same)))))) [97, 98] 8 (by decide +kernel) rfl good_ab (by decide) (by decide)
    · exact .of (k7 _ _ n2.1 n2.2 (a6 _ _ (a5 _ _ (a4 _ _ (a3 _ _ upd_same))))) [97] 8 (by decide +kernel) rfl good_a (by decide) (by decide)
    · exact .of (k7 _ _ n3.1 n3.2 (a6 _ _ (a5 _ _ (a4 _ _ upd_same)))) [97, 98] 5 (by decide +kernel) rfl good_ab (by decide) (by decide)
    · exact .of (k7 _ _ n4.1 n4.2 (a6 _ _ (a5 _ _ upd_same))) [97, 98, 99] 5 (by decide +kernel) rfl good_abc (by decide) (by decide)
    · exact .of (k7 _ _ n5.1 n5.2 (a6 _ _ upd_same)) [98, 100, 102, 122] 4 (by decide +kernel) rfl good_bdfz (by decide) (by decide)
  refine ⟨t, _, rfl, SqT.of et, rfl, _, _, rfl, _, _, rfl, rfl, ?_⟩
  clear D1 D2 D3 D4 D5 hD k7 et
  have sg4 := gs.2.1
  have sg1 := gs.1
  have hls : (mkS sg).length = sg.length := mkS_length sg
  -- the block
  refine ⟨⟨_, rfl⟩, _, rfl, d, g, _, c + 1, rfl, by decide, by decide, hD7, by omega, fun r H8 r0 r9 hD8 k8' => ?_⟩
  refine ⟨_, _, rfl, rfl, 3 + r, rfl, by omega, by omega, fun D hDD => ?_⟩
  have nD := hD8.dn hDD
  refine lc_it (walk_range (lo := 0) (n := (3 + r).toNat)) (fun i H' => ∃ us : Wd, H' D = some (.lst (us.map fun c => V.str (mkS [c]))) ∧ us.length = i ∧ DeckAt (c + 2 + i) H' d g)
    ⟨[], upd_same, rfl, hD8.same (same_new hDD _)⟩ (fun _ _ _ _ => trivial) ?_ ?_
  · rintro i x H3 H4 hi ⟨us, m1, m2, hD4⟩ ⟨rfl, rfl⟩
    refine ⟨rfl, _, rfl, _, rfl, d, g, mkS sg, c + 2 + i, rfl, by rw [hls]; omega, by rw [hls]; omega, hD4, by omega, fun x H5 hx hD5 k5 => ?_⟩
    refine ⟨_, k5 _ _ nD.1 nD.2 m1, by rw [List.length_map, m2, sizeLine_eq]; omega, us ++ [x], ?_, by rw [List.length_append, m2]; rfl, hD5.other nD.1 nD.2 _⟩
    rw [upd_same, List.map_append]
    rfl
  rintro H3 ⟨us, m1, m2, hD4⟩
  have m1' : H3 D = some (.lst ((us.map fun c => mkS [c]).map V.str)) := by rw [m1, List.map_map]; rfl
  have ul3 : 3 ≤ us.length := by omega
  have ul11 : us.length ≤ 11 := by omega
  have hD5 := hD4.le (show c + 2 + (3 + r).toNat ≤ c + 20 by omega)
  refine ⟨_, D, _, rfl, rfl, .inl (SqL.of m1'), ?_, ?_⟩
  · rw [sum_signs, List.length_map]
    show us.length + us.length * 0 ≤ _
    omega
  show tSeq _ _ _ _ _
  rw [join_signs]
  clear hD4 hD8 hD7 m1 k8'
  -- the word
  refine ⟨_, rfl, _, 2000, rfl, rfl, mulOk_of (n := 2000) (by omega) (by omega), ?_⟩
  rw [show (2000 : Int) = ((2000 : Nat) : Int) from rfl, mul_times]
  refine ⟨_, rfl, d, g, _, c + 20, rfl, by decide, by decide, hD5, by omega, fun r3 H5 c0 c1 hD6 _ => ?_⟩
  have tl : (mkS (times 2000 us)).length ≤ sizeLine := by
    rw [mkS_length, times_length, sizeLine_eq]
    omega
  obtain ⟨rn, rfl⟩ : ∃ rn : Nat, r3 = (rn : Int) := ⟨r3.toNat, by omega⟩
  refine ⟨_, _, rfl, rfl, 1900 + (rn : Int), rfl, _, rfl, tl, ?_⟩
  rw [show (1900 + (rn : Int)) = ((1900 + rn : Nat) : Int) by omega, cut_head]
  have zl : ((times 2000 us).take (1900 + rn)).length = 1900 + rn := by
    rw [List.length_take, times_length]
    omega
  generalize (times 2000 us).take (1900 + rn) = z at zl
  have hlz : (mkS z).length = z.length := mkS_length z
  have hz16 : (mkS z).length ≤ sizeLine := by rw [hlz, sizeLine_eq]; omega
  have hn : ((((mkS z).length : Nat) : Int) - k + 1).toNat = z.length + 1 - k := by rw [hlz]; omega
  -- its pieces
  refine ⟨_, rfl, _, rfl, hz16, _, rfl, _, _, rfl, rfl, _, _, rfl, rfl, _, rfl, by rw [hlz]; omega, by rw [hlz]; omega, fun D2 hD2 => ?_⟩
  rw [hn]
  have nD2 := hD6.dn hD2
  refine lc_it (walk_range (lo := 0) (n := z.length + 1 - k)) (fun i H' => H' D2 = some (.lst ((((wins k z).take i).map mkS).map .str)) ∧ Same H5 H') ⟨upd_same, same_new hD2 _⟩ (fun _ _ _ _ => trivial) ?_ ?_
  · rintro i x H6 H7 hi ⟨m1, s1⟩ ⟨rfl, rfl⟩
    refine ⟨rfl, _, rfl, _, rfl, _, rfl, _, rfl, _, rfl, _, _, rfl, rfl, _, rfl, _, rfl, hz16, ?_⟩
    rw [show ((0 : Int) + (i : Nat)) = (i : Nat) from Int.zero_add _, cut_win hi]
    refine ⟨_, m1, ?_, ?_, fun b o e => ?_⟩
    · rw [List.length_map, List.length_map, List.length_take, sizeLine_eq]
      omega
    · rw [upd_same, take_succ_wins hi, List.map_append, List.map_append]
      rfl
    · rw [upd_ne (ne_of_none e hD2)]
      exact s1 b o e
  rintro H6 ⟨m3, s6⟩
  rw [List.take_of_length_le (by rw [wins_length]; exact Nat.le_refl _)] at m3
  have hD7 := hD6.same s6
  refine ⟨D2, wins k z, rfl, SqL.of m3, by rw [wins_length]; omega, fun ps lw ms hps hperm hnd hml hmem => ?_⟩
  have b1 := same_new hps (SetTxO P w ps lw)
  refine ⟨ps, lw, ms, rfl, upd_same, hperm, hnd, hml, fun pl hpl => ?_⟩
  have b2 := same_new hpl (.lst (((asc ms).map mkS).map .str))
  refine ⟨pl, _, rfl, .inl ⟨SqL.of upd_same, fun tb htb => ?_⟩⟩
  have b3 := same_new htb (.tup (((asc ms).map mkS).map .str))
  have hD8 := ((hD7.same b1).same b2).same b3
  have etb : upd (upd (upd H6 ps (SetTxO P w ps lw)) pl (.lst (((asc ms).map mkS).map .str))) tb (.tup (((asc ms).map mkS).map .str)) tb = some (.tup (((asc ms).map mkS).map .str)) := upd_same
  have ntb := ((hD7.same b1).same b2).dn htb
  have la' : (asc ms).length ≤ 4000 := Nat.le_trans (asc_length_le _) hml
  generalize upd (upd (upd H6 ps (SetTxO P w ps lw)) pl (.lst (((asc ms).map mkS).map .str))) tb (.tup (((asc ms).map mkS).map .str)) = H7 at hD8 etb ⊢
  generalize asc ms = bits at etb la'
  -- the judge
  have k1' : (k : Int) - 1 = ((k - 1 : Nat) : Int) := by omega
  have k2' : (((mkS z).length : Nat) : Int) - k + 1 = ((z.length + 1 - k : Nat) : Int) := by rw [hlz]; omega
  refine ⟨_, rfl, (by show 0 ≤ sizeLine; decide), fun e0 he0 => ?_⟩
  refine ⟨_, rfl, _, rfl, _, _, rfl, rfl, _, rfl, _, rfl, hz16, ?_⟩
  rw [k1', cut_head]
  refine ⟨(by show 1 ≤ sizeLine; decide), fun e3 he3 => ?_⟩
  refine ⟨_, rfl, _, rfl, _, rfl, hz16, _, rfl, _, _, rfl, rfl, _, _, rfl, rfl, _, rfl, _, rfl, hz16, ?_⟩
  rw [k2', cut_tail (by omega)]
  refine ⟨(by show 1 ≤ sizeLine; decide), fun e4 he4 => ?_⟩
  refine ⟨_, rfl, (by show 5 ≤ sizeLine; decide), fun ej hej => ?_⟩
  have c0 := same_new he0 (.tup [])
  have c3 := same_new he3 (.tup [.str (mkS (z.take (k - 1)))])
  have c4 := same_new he4 (.tup [.str (mkS (z.drop (z.length + 1 - k)))])
  have c5 := same_new hej (.tup [.int k, .ref e0, .ref e3, .ref e4, .ref tb])
  have m0 := hD8.dn he0
  have m3' := (hD8.same c0).dn he3
  have m4 := ((hD8.same c0).same c3).dn he4
  have m5 := (((hD8.same c0).same c3).same c4).dn hej
  have hD9 := (((hD8.same c0).same c3).same c4).same c5
  have j0 := c5 _ _ (c4 _ _ (c3 _ _ (upd_same (H := H7) (a := e0) (o := .tup []))))
  have j3 := c5 _ _ (c4 _ _ (upd_same (H := upd H7 e0 (.tup [])) (a := e3) (o := .tup [.str (mkS (z.take (k - 1)))])))
  have j4 := c5 _ _ (upd_same (H := upd (upd H7 e0 (.tup [])) e3 (.tup [.str (mkS (z.take (k - 1)))])) (a := e4) (o := .tup [.str (mkS (z.drop (z.length + 1 - k)))]))
  have jb := c5 _ _ (c4 _ _ (c3 _ _ (c0 _ _ etb)))
  have jj := upd_same (H := upd (upd (upd H7 e0 (.tup [])) e3 (.tup [.str (mkS (z.take (k - 1)))])) e4 (.tup [.str (mkS (z.drop (z.length + 1 - k)))])) (a := ej) (o := .tup [.int k, .ref e0, .ref e3, .ref e4, .ref tb])
  generalize upd (upd (upd (upd H7 e0 (.tup [])) e3 (.tup [.str (mkS (z.take (k - 1)))])) e4 (.tup [.str (mkS (z.drop (z.length + 1 - k)))])) ej (.tup [.int k, .ref e0, .ref e3, .ref e4, .ref tb]) = H8 at hD9 j0 j3 j4 jb jj ⊢
  have hJ : Dt H8 (fun a => a ≠ d ∧ a ≠ g) (.ref ej) (judgeD k [] [z.take (k - 1)] [z.drop (z.length + 1 - k)] bits) :=
    .tup jj m5 (.cons (.flat (show FlatD (.int k) (.int k) from rfl)) (.cons (dt_of_words (L := []) j0 m0) (.cons (dt_of_words (L := [z.take (k - 1)]) j3 m3') (.cons (dt_of_words (L := [z.drop (z.length + 1 - k)]) j4 m4) (.cons (dt_of_words jb ntb) .nil)))))
  clear hD6 hD7 hD8 c0 c3 c4 c5 b1 b2 b3 j0 j3 j4 jb jj etb
  -- the words that are asked
  refine ⟨_, rfl, _, rfl, _, rfl, hz16, d, g, _, c + 20 + 1, rfl, by rw [hlz]; omega, by rw [hlz]; omega, hD9, by omega, fun r4 H9 q0 q1 hD10 k9 => ?_⟩
  obtain ⟨rm, rfl⟩ : ∃ rm : Nat, r4 = (rm : Int) := ⟨r4.toNat, by omega⟩
  have hJ9 := keep_dt k9 hJ
  refine ⟨_, rfl, ?_⟩
  refine ⟨_, rfl, _, rfl, _, rfl, _, rfl, hz16, ?_⟩
  rw [cut_head]
  refine ⟨_, rfl, _, rfl, d, g, mkS sg, c + 20 + 1 + 1, rfl, by rw [hls]; omega, by rw [hls]; omega, hD10, by omega, fun xs1 H10 _ hD11 k10 => ?_⟩
  have hJ10 := keep_dt k10 hJ9
  have eap : mkS (z.take rm) ++ (⟨#[xs1]⟩ : Str) = mkS (z.take rm ++ [xs1]) := mkS_append _ [xs1]
  have lap : (z.take rm ++ [xs1]).length ≤ 2001 := by
    rw [List.length_append, List.length_take]
    show min rm z.length + 1 ≤ _
    omega
  refine ⟨_, _, rfl, rfl, ?_, ?_⟩
  · show (mkS (z.take rm)).length + (mkS [xs1]).length ≤ sizeLine
    rw [mkS_length, mkS_length, List.length_take, sizeLine_eq]
    show min rm z.length + 1 ≤ _
    omega
  rw [eap]
  refine ⟨_, rfl, _, rfl, _, _, rfl, rfl, _, rfl, _, rfl, hz16, ?_⟩
  obtain ⟨u, eu, ul⟩ := cut_after z rm (by rw [hlz] at q1; omega)
  rw [eu]
  refine ⟨_, _, rfl, rfl, by rw [mkS_length, mkS_length, sizeLine_eq]; omega, ?_⟩
  rw [mkS_append]
  refine ⟨_, rfl, _, rfl, _, rfl, hz16, ?_⟩
  obtain ⟨u1, eu1, ul1⟩ := cut_some z 1
  rw [eu1]
  refine ⟨_, rfl, _, rfl, _, rfl, _, rfl, hz16, ?_⟩
  rw [cut_head]
  refine ⟨_, rfl, _, rfl, _, _, rfl, rfl, _, rfl, _, rfl, hz16, ?_⟩
  rw [k1', cut_head]
  refine ⟨(by show 5 ≤ sizeLine; decide), fun la hla => ?_⟩
  have sl := same_new hla (.lst [.str (mkS z), .str (mkS (z.take rm ++ [xs1] ++ u)), .str (mkS u1), .str (mkS (z.take k)), .str (mkS (z.take (k - 1)))])
  have el := upd_same (H := H10) (a := la) (o := .lst [.str (mkS z), .str (mkS (z.take rm ++ [xs1] ++ u)), .str (mkS u1), .str (mkS (z.take k)), .str (mkS (z.take (k - 1)))])
  have hJ11 := dt_same hJ10 sl
  generalize upd H10 la (.lst [.str (mkS z), .str (mkS (z.take rm ++ [xs1] ++ u)), .str (mkS u1), .str (mkS (z.take k)), .str (mkS (z.take (k - 1)))]) = H11 at el hJ11 ⊢
  refine ⟨_, rfl, la, rfl, ⟨_, SqL.of el⟩, fun D3 hD3 => ?_⟩
  refine lc_it (walk_list (xs := [.str (mkS z), .str (mkS (z.take rm ++ [xs1] ++ u)), .str (mkS u1), .str (mkS (z.take k)), .str (mkS (z.take (k - 1)))])) (fun i H' => H' D3 = some (.lst []) ∧ Same H11 H') ⟨upd_same, same_new hD3 _⟩ (fun i H' _ ⟨_, s⟩ => SqL.of (s _ _ el)) ?_ ?_
  · rintro i x H12 H13 hi ⟨m1, s1⟩ ⟨rfl, hx⟩
    obtain ⟨y, rfl, yl⟩ : ∃ y : Wd, x = .str (mkS y) ∧ y.length ≤ 3000 := by
      have hm := List.mem_of_getElem? hx
      simp only [List.mem_cons, List.not_mem_nil, or_false] at hm
      rcases hm with e | e | e | e | e
      · exact ⟨z, e, by omega⟩
      · exact ⟨_, e, by rw [List.length_append, List.length_append, List.length_take]; show min rm z.length + 1 + u.length ≤ _; omega⟩
      · exact ⟨_, e, by omega⟩
      · exact ⟨_, e, by rw [List.length_take]; omega⟩
      · exact ⟨_, e, by rw [List.length_take]; omega⟩
    refine ⟨rfl, _, rfl, _, rfl, .ref ej, k, [], _, _, bits, y, _, rfl, dt_same hJ11 s1, k1, by omega, yl, la', fun H' s' => ⟨_, rfl, if_fl rfl ⟨s' _ _ m1, s1.trans s'⟩⟩⟩
  · rintro H12 ⟨m1, s1⟩
    refine ⟨(by show 0 ≤ sizeLine; decide), fun p hp => ?_⟩
    refine ⟨_, _, dp_ints (ns := []) (SqL.of ((same_new hp (.lst [])) _ _ m1)), dp_ints (ns := []) (SqL.of upd_same), shaped_ints [], shaped_ints [], ?_⟩
    rw [show PyData.eqv (.list (([] : List Int).map .int)) (.list (([] : List Int).map .int)) = true by simp [PyData.eqv, PyData.eqvAll]]
    exact q _
end
end Vf

set_option Elab.async false
set_option linter.all false
set_option maxRecDepth 100000
set_option maxHeartbeats 4000000
namespace Vf
open PySem PySem.Spec PyProof.Rows L2 L2.Vx Vs Vm
abbrev sLaw : Stmt := top 21
structure TxtL (mg : Str → Option Value) (fW fP fR fK fZ fB fO fN fT fA fL : Addr) : Prop extends TxtG mg fW fP fR where
  deck : mg "_law_deck" = some (.ref fK)
  sizes : mg "_law_sizes" = some (.ref fZ)
  bars : mg "_law_bars" = some (.ref fB)
  words : mg "_law_words" = some (.ref fO)
  walked : mg "_law_walked" = some (.ref fN)
  bent : mg "_law_bent" = some (.ref fT)
  acc : mg "accepts" = some (.ref fA)
  long : mg "_law_long_right" = some (.ref fL)
  rep : mg "repr" = none
theorem eqv_bls (bs : List Bool) : PyData.eqv (PyData.list (bs.map .bool)) (PyData.list (bs.map .bool)) = true := by
  simp only [PyData.eqv]
  induction bs with
  | nil => simp [PyData.eqvAll]
  | cons b r ih =>
    simp only [List.map_cons, PyData.eqvAll, ih, Bool.and_true]
    simp [PyData.eqv]
theorem judge_lit {H : Hp} {e1 e2 e3 e4 ej : Addr} {x1 x2 x3 x4 : List V} {k : Int} (h1 : H e1 = none) (h2 : upd H e1 (.tup x1) e2 = none) (h3 : upd (upd H e1 (.tup x1)) e2 (.tup x2) e3 = none) (h4 : upd (upd (upd H e1 (.tup x1)) e2 (.tup x2)) e3 (.tup x3) e4 = none) (h5 : upd (upd (upd (upd H e1 (.tup x1)) e2 (.tup x2)) e3 (.tup x3)) e4 (.tup x4) ej = none)
    (j : Nat) (S F L P : List Wd) (hk : k = (j : Nat)) (q1 : x1 = (S.map mkS).map .str) (q2 : x2 = (F.map mkS).map .str) (q3 : x3 = (L.map mkS).map .str) (q4 : x4 = (P.map mkS).map .str) :
    ∃ HJ, HJ = upd (upd (upd (upd (upd H e1 (.tup x1)) e2 (.tup x2)) e3 (.tup x3)) e4 (.tup x4)) ej (.tup [.int k, .ref e1, .ref e2, .ref e3, .ref e4]) ∧ Same H HJ ∧ Dt HJ (fun _ => True) (.ref ej) (judgeD j S F L P) := by
  subst q1 q2 q3 q4 hk
  have c1 := same_new h1 (.tup ((S.map mkS).map .str))
  have c2 := same_new h2 (.tup ((F.map mkS).map .str))
  have c3 := same_new h3 (.tup ((L.map mkS).map .str))
  have c4 := same_new h4 (.tup ((P.map mkS).map .str))
  have c5 := same_new h5 (.tup [.int j, .ref e1, .ref e2, .ref e3, .ref e4])
  refine ⟨_, rfl, (((c1.trans c2).trans c3).trans c4).trans c5, .tup upd_same trivial (.cons (.flat (show FlatD (.int j) (.int j) from rfl)) (.cons (dt_of_words ?_ trivial) (.cons (dt_of_words ?_ trivial) (.cons (dt_of_words ?_ trivial) (.cons (dt_of_words ?_ trivial) .nil)))))⟩
  · exact c5 _ _ (c4 _ _ (c3 _ _ (c2 _ _ upd_same)))
  · exact c5 _ _ (c4 _ _ (c3 _ _ upd_same))
  · exact c5 _ _ (c4 _ _ upd_same)
  · exact c5 _ _ upd_same
def zs6 : List Wd := [List.replicate 50 97, List.replicate 29 97, [98], List.replicate 49 97 ++ [98], 98 :: List.replicate 49 97, List.replicate 30 97]
def bs6 : List Bool := [true, false, true, false, false, true]
theorem zs6_len : ∀ z ∈ zs6, z.length ≤ 3000 := by decide +kernel
theorem zs6_acc : zs6.map (acc 30 [[98]] [List.replicate 29 97] [List.replicate 29 97] [List.replicate 30 97]) = bs6 := by decide +kernel
theorem mulOk_a (n : Nat) (h : n ≤ 4000) : MulOk "a" (n : Int) := by
  rw [show ("a" : Str) = mkS [97] by decide +kernel]
  exact mulOk_of (by decide) h
def zs9 : List Wd := [[], [97], [98], [97, 97, 98], [97, 98], [97, 97], [97, 98, 97], [97, 98, 98], [98, 97]]
def bs9 : List Bool := [true, true, false, true, true, false, false, false, false]
theorem zs9_len : ∀ z ∈ zs9, z.length ≤ 3000 := by decide
theorem zs9_acc : zs9.map (acc 2 [[], [97]] [[97]] [[98]] [[97, 97], [97, 98]]) = bs9 := by decide +kernel
def dpsB (bs : List Bool) : PyData := .list (bs.map .bool)
theorem dpAll_bls {K : PySem.W.Frag} {H : Hp} : ∀ bs : List Bool, DpAll K H (bs.map V.bl) (bs.map .bool)
  | [] => .nil
  | b :: r => .cons (.bl b) (dpAll_bls r)
theorem dp_bls {K : PySem.W.Frag} {H : Hp} {a : Addr} {bs : List Bool} (h : SqL K H a (bs.map V.bl)) : Dp K H (.ref a) (dpsB bs) := .lst h (dpAll_bls bs)
theorem canLay_bls : ∀ bs : List Bool, PyData.canLayAll0 (bs.map .bool) = true
  | [] => rfl
  | n :: r => by simp only [List.map, PyData.canLayAll0, PyData.canLay0, canLay_bls r, Bool.and_self]
theorem depth_bls : ∀ bs : List Bool, PyData.depthAll (bs.map .bool) = 0
  | [] => rfl
  | n :: r => by simp only [List.map, PyData.depthAll, PyData.depth, depth_bls r, Nat.max_self]
theorem shaped_bls (bs : List Bool) : SeqAt.shaped (dpsB bs) = true := by
  unfold dpsB
  simp [SeqAt.shaped, PyData.canLay0, canLay_bls, PyData.depth, depth_bls]
theorem words_fit {L : List Wd} (h : SmallL L) : Fit 17603 1 (wordsD L) := by
  refine (fit_tup (b := 42) (e := 0) fun x hx => ?_).le ?_ (Nat.le_refl _)
  · obtain ⟨z, hz, rfl⟩ := List.mem_map.mp hx
    exact fit_str (n := 4) (h.2 z hz).2 (h.2 z hz).1
  · rw [List.length_map]
    have := h.1
    omega
theorem judge_shows {k : Nat} {S F L P : List Wd} (hk : k ≤ 4) (h : SmallJ S F L P) : Shows (judgeD k S F L P) :=
  ((Fits.cons ((fit_int (n := (k : Int)) (by omega) (by omega)).le (Nat.le_refl _) (by decide : 0 ≤ 1)) (.cons (words_fit h.s) (.cons (words_fit h.f) (.cons (words_fit h.l) (.cons (words_fit h.p) .nil))))).tup).shows (by decide) (by decide)
theorem dt_any {H : Hp} {S : Addr → Prop} {v : V} {D : PyData} (h : Dt H S v D) : Dt H (fun _ => True) v D := h.mono (fun _ _ _ e => e) fun _ _ _ _ => trivial
def sizes3 : List V := [.int 3, .int 8, .int 30]
theorem sizes_good {x : V} (h : x ∈ sizes3) : ∃ n : Nat, x = .int n ∧ n ≤ 30 := by
  unfold sizes3 at h
  simp only [List.mem_cons, List.not_mem_nil, or_false] at h
  rcases h with e | e | e
  · exact ⟨3, e, by decide⟩
  · exact ⟨8, e, by decide⟩
  · exact ⟨30, e, by decide⟩
def spLaw (K : PySem.W.Frag) : Sp := fun vs H Q _ => ∃ (a : Addr) (ns : List Int), vs = [.ref a] ∧ SqL K H a (ns.map V.int) ∧ ns.length ≤ 63 ∧ ∀ H', Q (.bl true) H'
section
variable {P : Program} {w : World} {K : PySem.W.Frag} {mg : Str → Option Value} {base : Heap} {fW fP fR fK fZ fB fO fN fT fA fL : Addr} {fdW fdP fdR fdK fdZ fdB fdO fdN fdT fdA fdL : FuncData}
abbrev nLaw : List Str := ["_law_script", "_law_deck_here", "_law_go", "_law_abc", "_law_wide", "_law_it", "_law_kept", "_law_some_here", "_law_size", "_law_turn", "_law_walked_here", "_law_one", "_law_told", "_law_k", "_law_word"]
theorem scLaw : FnScope nLaw ["_law_script"] (defScope sLaw) := ⟨rfl, rfl, rfl, by decide +kernel, rfl, by decide +kernel, by decide +kernel⟩
theorem ok_law {f : Addr} {fd : FuncData} (F : Fun K "law" "law" sLaw f fd) (T : TxtL mg fW fP fR fK fZ fB fO fN fT fA fL)
    (GK : FnOk P w K mg base CX0 1 fK fdK ["_law_script"] (spDeck K)) (bK : Binds K fdK ["_law_script"] []) (kK : PySem.W.keepIn K (.ref fK) = true)
    (GW : FnOk P w K mg base CX0 1 fW fdW ["_law_deck_here", "_law_many"] spDraw) (bW : Binds K fdW ["_law_deck_here", "_law_many"] []) (kW : PySem.W.keepIn K (.ref fW) = true)
    (GP : FnOk P w K mg base CX0 2 fP fdP ["_law_deck_here", "_law_some_here"] (spPick K)) (GS : FnOk P w K mg base CX0 2 fP fdP ["_law_deck_here", "_law_some_here"] spPickS) (bP : Binds K fdP ["_law_deck_here", "_law_some_here"] []) (kP : PySem.W.keepIn K (.ref fP) = true)
    (GZ : FnOk P w K mg base CX0 3 fZ fdZ ["_law_deck_here"] spSizes) (bZ : Binds K fdZ ["_law_deck_here"] []) (kZ : PySem.W.keepIn K (.ref fZ) = true)
    (GB : FnOk P w K mg base CX0 3 fB fdB ["_law_deck_here", "_law_abc", "_law_wide"] spBars) (bB : Binds K fdB ["_law_deck_here", "_law_abc", "_law_wide"] []) (kB : PySem.W.keepIn K (.ref fB) = true)
    (GO : FnOk P w K mg base CX0 1 fO fdO ["_law_abc", "_law_size"] spWords) (bO : Binds K fdO ["_law_abc", "_law_size"] []) (kO : PySem.W.keepIn K (.ref fO) = true)
    (GN : FnOk P w K mg base CX0 3 fN fdN ["_law_deck_here", "_law_abc", "_law_it", "_law_size"] spWalked) (bN : Binds K fdN ["_law_deck_here", "_law_abc", "_law_it", "_law_size"] []) (kN : PySem.W.keepIn K (.ref fN) = true)
    (GT : FnOk P w K mg base CX0 3 fT fdT ["_law_deck_here", "_law_abc", "_law_word"] spBent) (bT : Binds K fdT ["_law_deck_here", "_law_abc", "_law_word"] []) (kT : PySem.W.keepIn K (.ref fT) = true)
    (GA : FnOk P w K mg base CX0 4 fA fdA ["judge", "text"] spAcc) (bA : Binds K fdA ["judge", "text"] []) (kA : PySem.W.keepIn K (.ref fA) = true)
    (GR : FnG P w K mg base 5 fR fdR ["_law_it", "_law_word"] spOne) (bR : Binds K fdR ["_law_it", "_law_word"] []) (kR : PySem.W.keepIn K (.ref fR) = true)
    (GL : FnG P w K mg base 6 fL fdL ["_law_deck_here"] spLong) (bL : Binds K fdL ["_law_deck_here"] []) (kL : PySem.W.keepIn K (.ref fL) = true) :
    FnG P w K mg base 7 f fd ["_law_script"] (spLaw K) := by
  refine FunG F scLaw (fun vs H Q E h => ?_) (fun cdv A outer s H vs Q E hr hg h => ?_)
  · obtain ⟨a, ns, rfl, _⟩ := h
    rfl
  obtain ⟨a, ns, rfl, hS, h63, q⟩ := h
  have hr1 : Room 1 _ := hr.mono (by decide)
  have hr2 : Room 2 _ := hr.mono (by decide)
  have hr3 : Room 3 _ := hr.mono (by decide)
  have hr4 : Room 4 _ := hr.mono (by decide)
  have hr5 : Room 5 _ := hr.mono (by decide)
  have hu : (A.deeper (envOfC "law" (defScope sLaw) s.heap.objs.size f cdv)).units + 100 < cLine := by
    have z := hr.un
    omega
  have hu64 : (A.deeper (envOfC "law" (defScope sLaw) s.heap.objs.size f cdv)).units + 64 < cLine := by omega
  refine ⟨_, pss_cons (ps_set (i := 1) scLaw.nd rfl (Or.inr rfl) (pe_call GK hr1 rfl T.deck kK bK .nil pass0 (pa_cons (pv 0) pa_nil)))
    (pss_cons (ps_for PassesOwn.never rfl (pi_range1 rfl T.range (pa_cons pe_int pa_nil)) (pg_name (i := 2) scLaw.nd rfl (Or.inl rfl))
      (pss_cons (ps_asg (pe_call GZ hr3 rfl T.sizes kZ bZ .nil pass0 (pa_cons (pv 1) pa_nil)) (pg_tup rfl (pgs_cons (pg_name (i := 3) scLaw.nd rfl (Or.inr rfl)) (pgs_cons (pg_name (i := 4) scLaw.nd rfl (Or.inr rfl)) pgs_nil))))
      (pss_cons (ps_set (i := 5) scLaw.nd rfl (Or.inr rfl) (pe_call GB hr3 rfl T.bars kB bB .nil pass0 (pa_cons (pv 1) (pa_cons (pv 3) (pa_cons (pv 4) pa_nil)))))
      (pss_cons (ps_par (i := 6) (j := 7) rfl scLaw.nd rfl rfl (by decide) rfl rfl (pa_cons (pe_callB (call_rep hg hu (fun _ => True)) (by rfl) T.rep (by decide +kernel) (pa_cons (pv 5) pa_nil)) (pa_cons (pe_lst pa_nil) pa_nil)) (by rfl))
      (pss_cons (ps_for PassesOwn.never rfl (pi_range1 rfl T.range (pa_cons pe_int pa_nil)) (pg_name (i := 8) scLaw.nd rfl (Or.inl rfl))
        (pss_one (ps_expr (pe_bm PySem.F.plainAttrs_list PySem.F.slot_list_extend PySem.F.type_list_extend mt_extend (pv 7) (pa_cons (pe_call GO hr1 rfl T.words kO bO .nil pass0 (pa_cons (pv 3) (pa_cons (pv 8) pa_nil))) pa_nil)))))
      (pss_cons (ps_for PassesOwn.never rfl (pi_range1 rfl T.range (pa_cons pe_int pa_nil)) (pg_name (i := 9) scLaw.nd rfl (Or.inl rfl))
        (pss_cons (ps_expr (pe_bm PySem.F.plainAttrs_list PySem.F.slot_list_append PySem.F.type_list_append mt_append (pv 7) (pa_cons (pe_join pe_str (pe_lc (own := [("_law_k", 13)]) (g := gName 13) (tt := tYes) rfl scLaw.nd
            (pi_range1 rfl T.range (pa_cons (pe_call GW hr1 rfl T.draw kW bW .nil pass0 (pa_cons (pv 1) (pa_cons pe_int pa_nil))) pa_nil))
            (blkOk_by (N := nLaw) (sc := defScope sLaw) (by decide +kernel)) (fun _ _ _ _ _ => pg_name (i := 13) scLaw.nd rfl (Or.inl rfl)) (fun _ _ _ _ _ => pts_nil)
            (fun _ _ _ _ _ => by exact pe_call GS hr2 rfl T.pick kP bP .nil pass0 (pa_cons (pv 1) (pa_cons (pv 3) pa_nil))))) pa_nil)))
        (pss_cons (ps_set (i := 10) scLaw.nd rfl (Or.inl rfl) (pe_call GN hr3 rfl T.walked kN bN .nil pass0 (pa_cons (pv 1) (pa_cons (pv 3) (pa_cons (pv 5) (pa_cons (pe_call GP hr2 rfl T.pick kP bP .nil pass0 (pa_cons (pv 1) (pa_cons (pe_lst (pa_cons pe_int (pa_cons pe_int (pa_cons pe_int pa_nil)))) pa_nil))) pa_nil))))))
        (pss_one (ps_set (i := 7) scLaw.nd rfl (Or.inl rfl) (pe_op op_cat (pv 7) (pe_lst (pa_cons (pv 10) (pa_cons (pe_call GT hr3 rfl T.bent kT bT .nil pass0 (pa_cons (pv 1) (pa_cons (pv 3) (pa_cons (pv 10) pa_nil)))) (pa_cons (pe_call GT hr3 rfl T.bent kT bT .nil pass0 (pa_cons (pv 1) (pa_cons (pv 3) (pa_cons (pv 10) pa_nil)))) pa_nil))))))))))
      (pss_one (ps_if (PW.pt (pw_or (pt_cmpR (op_neD hu64) (pe_lc (own := [("_law_word", 14)]) (g := gName 14) (tt := _) rfl scLaw.nd (pi_list (pv 7))
            (blkOk_by (N := nLaw) (sc := defScope sLaw) (by decide +kernel)) (fun _ _ _ _ _ => pg_name (i := 14) scLaw.nd rfl (Or.inl rfl))
            (fun _ _ _ _ _ => pts_one (pt_not (pt_val (pe_callG GR len_one hg hr5 rfl T.right kR bR .nil pass0 (pa_cons (pv 5) (pa_cons (pv 14) pa_nil))))))
            (fun _ _ _ _ _ => by exact pv 14)) (pe_lst pa_nil) (nomark _))
          (pw_or1 (pt_cmpR op_ne (pe_callB (call_rep hg hu (fun _ => True)) (by rfl) T.rep (by decide +kernel) (pa_cons (pv 5) pa_nil)) (pv 6) (nomark _))))) (pss_one (ps_ret pe_bl)) pss_nil))))))))
    (pss_cons (ps_set (i := 11) scLaw.nd rfl (Or.inr rfl) (pe_tup (pa_cons pe_int (pa_cons (pe_tup (pa_cons pe_str (pa_cons pe_str pa_nil))) (pa_cons (pe_tup (pa_cons pe_str pa_nil)) (pa_cons (pe_tup (pa_cons pe_str pa_nil)) (pa_cons (pe_tup (pa_cons pe_str (pa_cons pe_str pa_nil))) pa_nil)))))))
    (pss_cons (ps_setLc (i := 12) (own := [("_law_word", 14)]) (g := gName 14) (tt := tYes) rfl scLaw.nd rfl rfl (sw_true rfl rfl rfl (by decide +kernel)) (pi_list (pe_lst (pa_cons pe_str (pa_cons pe_str (pa_cons pe_str (pa_cons pe_str (pa_cons pe_str (pa_cons pe_str (pa_cons pe_str (pa_cons pe_str (pa_cons pe_str pa_nil)))))))))))
        (blkOk_by (N := nLaw) (sc := defScope sLaw) (by decide +kernel)) (fun _ _ _ _ _ => pg_name (i := 14) scLaw.nd rfl (Or.inl rfl)) (fun _ _ _ _ _ => pts_nil)
        (fun _ _ _ _ _ => by exact pe_call GA hr4 rfl T.acc kA bA .nil pass0 (pa_cons (pv 11) (pa_cons (pv 14) pa_nil))))
    (pss_cons (ps_if (pt_cmpR (op_neD hu64) (pv 12) (pe_lst (pa_cons pe_bl (pa_cons pe_bl (pa_cons pe_bl (pa_cons pe_bl (pa_cons pe_bl (pa_cons pe_bl (pa_cons pe_bl (pa_cons pe_bl (pa_cons pe_bl pa_nil)))))))))) (nomark _)) (pss_one (ps_ret pe_bl)) pss_nil)
    (pss_cons (ps_set (i := 4) scLaw.nd rfl (Or.inr rfl) (pe_tup (pa_cons pe_int (pa_cons (pe_tup (pa_cons pe_str pa_nil)) (pa_cons (pe_tup (pa_cons (pe_op op_mul_str pe_str pe_int) pa_nil)) (pa_cons (pe_tup (pa_cons (pe_op op_mul_str pe_str pe_int) pa_nil)) (pa_cons (pe_tup (pa_cons (pe_op op_mul_str pe_str pe_int) pa_nil)) pa_nil)))))))
    (pss_cons (ps_setLc (i := 12) (own := [("_law_word", 14)]) (g := gName 14) (tt := tYes) rfl scLaw.nd rfl rfl (sw_true rfl rfl rfl (by decide +kernel)) (pi_list (pe_lst (pa_cons (pe_op op_mul_str pe_str pe_int) (pa_cons (pe_op op_mul_str pe_str pe_int) (pa_cons pe_str (pa_cons (pe_op op_add_str (pe_op op_mul_str pe_str pe_int) pe_str) (pa_cons (pe_op op_add_str pe_str (pe_op op_mul_str pe_str pe_int)) (pa_cons (pe_op op_mul_str pe_str pe_int) pa_nil))))))))
        (blkOk_by (N := nLaw) (sc := defScope sLaw) (by decide +kernel)) (fun _ _ _ _ _ => pg_name (i := 14) scLaw.nd rfl (Or.inl rfl)) (fun _ _ _ _ _ => pts_nil)
        (fun _ _ _ _ _ => by exact pe_call GA hr4 rfl T.acc kA bA .nil pass0 (pa_cons (pv 4) (pa_cons (pv 14) pa_nil))))
    (pss_cons (ps_if (pt_cmpR (op_neD hu64) (pv 12) (pe_lst (pa_cons pe_bl (pa_cons pe_bl (pa_cons pe_bl (pa_cons pe_bl (pa_cons pe_bl (pa_cons pe_bl pa_nil))))))) (nomark _)) (pss_one (ps_ret pe_bl)) pss_nil)
    (pss_one (ps_ret (pe_callG GL len_long hg hr rfl T.long kL bL .nil pass0 (pa_cons (pv 1) pa_nil))))))))))), ?_⟩
  refine ⟨_, rfl, a, ns, rfl, hS, h63, fun d g H1 s1 nd ng hD1 => ?_⟩
  refine ⟨5, rfl, by decide, by decide, for_range (lo := 0) (n := 5) (fun i σ H' => ∃ v2 v3 v4 v5 v6 v7 v8 v9 v10, σ = [some (.ref a), some (.ref d), v2, v3, v4, v5, v6, v7, v8, v9, v10, none, none, none, none] ∧ DeckAt (10000 * i) H' d g) ⟨none, none, none, none, none, none, none, none, none, rfl, hD1⟩ ?_ ?_⟩
  · rintro i σ H' hi ⟨v2, v3, v4, v5, v6, v7, v8, v9, v10, rfl, hD'⟩
    have hm : 10000 * i + 10000 ≤ most := by unfold most; omega
    generalize hc0 : 10000 * i = c at hD' hm
    refine ⟨_, rfl, d, g, c, rfl, hD', by omega, fun sg k p H2 gs k1 k4 hp hD2 kp => ?_⟩
    refine ⟨p, _, rfl, SqT.of hp, rfl, _, _, rfl, _, _, rfl, rfl, ?_⟩
    refine ⟨_, rfl, _, rfl, _, rfl, d, g, sg, k, c + 2, rfl, gs, k1, k4, hD2, by omega, fun S Fi L Pc j H3 hJ sj hD3 kb => ?_⟩
    have sgl := gs.2.1
    have sg1 := gs.1
    have hls : (mkS sg).length = sg.length := mkS_length sg
    have shj := judge_shows k4 sj
    have hPl : Pc.length ≤ 4000 := by have := sj.p.1; omega
    refine ⟨_, rfl, _, _, rfl, dt_any hJ, shj, (by show 0 ≤ sizeLine; decide), fun l0 hl0 => ?_⟩
    have n0 := hD3.dn hl0
    have s0 := same_new hl0 (.lst [])
    refine ⟨_, _, rfl, ?_⟩
    generalize hkept : (judgeD k S Fi L Pc).shown = kept
    -- all short words
    refine ⟨4, rfl, by decide, by decide, for_range (lo := 0) (n := 4) (fun i' σ H' => ∃ (v8 : Option V) (us : List Wd), σ = [some (.ref a), some (.ref d), some (.int (0 + (i : Nat))), some (.str (mkS sg)), some (.int k), some (.ref j), some (.str kept), some (.ref l0), v8, v9, v10, none, none, none, none] ∧ us.length ≤ 64 * i' ∧ (∀ u ∈ us, u.length ≤ 100) ∧ H' l0 = some (.lst ((us.map mkS).map .str)) ∧ DeckAt (c + 2002) H' d g ∧ Keeps d g H3 H')
      ⟨v8, [], rfl, Nat.zero_le _, (fun u h => nomatch h), upd_same, (hD3.same s0).le (by omega), Keeps.of s0⟩ ?_ ?_⟩
    · rintro i' σ H4 hi' ⟨v8, us, rfl, u1, u2, u3, hD4, u4⟩
      refine ⟨_, rfl, .inl ⟨rfl, _, SqL.of u3⟩, _, rfl, _, rfl, sg, i', by rw [Int.zero_add]; rfl, gs.2.1, by omega, fun ws p H5 hw s5 np ep => ?_⟩
      have hwl := hw.len
      have h4 : 4 ^ i' ≤ 64 := Nat.le_trans (Nat.pow_le_pow_right (by decide) (show i' ≤ 3 by omega)) (by decide)
      refine ⟨l0, p, _, _, rfl, rfl, s5 _ _ u3, ep, by rw [List.length_map, List.length_map, List.length_map, List.length_map, sizeLine_eq]; omega, _, us ++ ws, rfl, by rw [List.length_append]; omega, fun u hu => ?_, by rw [upd_same, List.map_append, List.map_append], (hD4.same s5).other n0.1 n0.2 _, fun b o x1 x2 e => ?_⟩
      · rcases List.mem_append.mp hu with h | h
        · exact u2 u h
        · have := (hw.all u h).1
          omega
      · rw [upd_ne (ne_of_none e hl0)]
        exact s5 _ _ (u4 b o x1 x2 e)
    rintro σ H4 ⟨v8, us0, rfl, u1, u2, u3, hD4, u4⟩
    -- words that are made
    refine ⟨4, rfl, by decide, by decide, for_range (lo := 0) (n := 4) (fun i' σ H' => ∃ (v9 v10 : Option V) (p : Addr) (us : List Wd), σ = [some (.ref a), some (.ref d), some (.int (0 + (i : Nat))), some (.str (mkS sg)), some (.int k), some (.ref j), some (.str kept), some (.ref p), v8, v9, v10, none, none, none, none] ∧ us.length ≤ 256 + 4 * i' ∧ (∀ u ∈ us, u.length ≤ 100) ∧ H' p = some (.lst ((us.map mkS).map .str)) ∧ DeckAt (c + 2002 + 200 * i') H' d g ∧ Keeps d g H3 H' ∧ H3 p = none ∧ p ≠ d ∧ p ≠ g)
      ⟨v9, v10, l0, us0, rfl, by omega, u2, u3, hD4, u4, hl0, n0.1, n0.2⟩ ?_ ?_⟩
    · clear hD4 u4 u3 u1 u2 hD' hD2 kp
      rintro i' σ H5 hi' ⟨v9, v10, p, us, rfl, w1, w2, w3, hD5, w4, w5, w6, w7⟩
      refine ⟨_, rfl, .inl ⟨rfl, _, SqL.of w3⟩, ⟨_, rfl⟩, _, rfl, d, g, _, c + 2002 + 200 * i', rfl, by decide, by decide, hD5, by omega, fun r H6 r0 r1 hD6 k6 => ?_⟩
      refine ⟨r, rfl, by omega, by omega, fun D hDD => ?_⟩
      have nD := hD6.dn hDD
      refine lc_it (walk_range (lo := 0) (n := r.toNat)) (fun x H' => ∃ ys : Wd, H' D = some (.lst (ys.map fun c => V.str (mkS [c]))) ∧ ys.length = x ∧ DeckAt (c + 2002 + 200 * i' + 1 + x) H' d g ∧ Keeps d g H6 H')
        ⟨[], upd_same, rfl, hD6.same (same_new hDD _), Keeps.of (same_new hDD _)⟩ (fun _ _ _ _ => trivial) ?_ ?_
      · rintro x v H7 H8 hx ⟨ys, m1, m2, hD7, k7⟩ ⟨rfl, rfl⟩
        refine ⟨rfl, _, rfl, _, rfl, d, g, mkS sg, c + 2002 + 200 * i' + 1 + x, rfl, by rw [hls]; omega, by rw [hls]; omega, hD7, by omega, fun y H9 hy hD9 k9 => ?_⟩
        refine ⟨_, k9 _ _ nD.1 nD.2 m1, by rw [List.length_map, m2, sizeLine_eq]; omega, ys ++ [y], ?_, by rw [List.length_append, m2]; rfl, hD9.other nD.1 nD.2 _, fun b o x1 x2 e => ?_⟩
        · rw [upd_same, List.map_append]
          rfl
        · rw [upd_ne (ne_of_none e hDD)]
          exact k9 b o x1 x2 (k7 b o x1 x2 e)
      rintro H7 ⟨ys, m1, m2, hD7, k7⟩
      have m1' : H7 D = some (.lst ((ys.map fun c => mkS [c]).map V.str)) := by rw [m1, List.map_map]; rfl
      refine ⟨_, D, _, rfl, rfl, .inl (SqL.of m1'), ?_, ?_⟩
      · rw [sum_signs, List.length_map]
        show ys.length + ys.length * 0 ≤ _
        omega
      rw [join_signs]
      have w37 := k7 _ _ w6 w7 (k6 _ _ w6 w7 w3)
      refine ⟨p, _, _, rfl, rfl, w37, by rw [List.length_map, List.length_map, sizeLine_eq]; omega, ?_⟩
      obtain ⟨vs, hv1, hv2, e8⟩ : ∃ vs : List Wd, vs.length = us.length + 1 ∧ (∀ u ∈ vs, u.length ≤ 100) ∧ upd H7 p (.lst ((us.map mkS).map V.str ++ [V.str (mkS ys)])) p = some (.lst ((vs.map mkS).map V.str)) := by
        refine ⟨us ++ [ys], by rw [List.length_append]; rfl, fun u hu => ?_, ?_⟩
        · rcases List.mem_append.mp hu with h | h
          · exact w2 u h
          · rw [List.mem_singleton.mp h]; omega
        · rw [upd_same, List.map_append, List.map_append]
          rfl
      have K8 : Keeps d g H3 (upd H7 p (.lst ((us.map mkS).map V.str ++ [V.str (mkS ys)]))) := fun b o x1 x2 e => by
        rw [upd_ne (ne_of_none e w5)]
        exact k7 b o x1 x2 (k6 b o x1 x2 (w4 b o x1 x2 e))
      have hD8 : DeckAt (c + 2002 + 200 * i' + 20) (upd H7 p (.lst ((us.map mkS).map V.str ++ [V.str (mkS ys)]))) d g := (hD7.other w6 w7 _).le (by omega)
      generalize upd H7 p (.lst ((us.map mkS).map V.str ++ [V.str (mkS ys)])) = H8 at e8 K8 hD8 ⊢
      refine ⟨_, rfl, _, rfl, _, rfl, _, rfl, (by show 3 ≤ sizeLine; decide), fun l hl => ?_⟩
      have nl := hD8.dn hl
      have sl := same_new hl (.lst sizes3)
      refine ⟨d, g, l, sizes3, _, rfl, SqL.of upd_same, nl.1, nl.2, (by intro z; cases z), (by show 3 < 1000000; decide), hD8.same sl, by omega, fun x H9 hx hD9 k9 => ?_⟩
      obtain ⟨nn, rfl, hnn⟩ := sizes_good hx
      have K9 : Keeps d g H3 H9 := (K8.trans (Keeps.of sl)).trans k9
      refine ⟨d, g, sg, .ref j, nn, k, _, S, Fi, L, Pc, rfl, gs, keep_dt K9 hJ, sj, k1, k4, hnn, hD9, by omega, fun y1 H10 yl1 hD10 k10 => ?_⟩
      refine ⟨_, rfl, _, rfl, _, rfl, _, rfl, _, rfl, d, g, sg, y1, _, rfl, gs, by omega, hD10, by omega, fun y2 H11 yl2 hD11 k11 => ?_⟩
      refine ⟨_, rfl, _, rfl, _, rfl, d, g, sg, y1, _, rfl, gs, by omega, hD11, by omega, fun y3 H12 yl3 hD12 k12 => ⟨(by show 3 ≤ sizeLine; decide), fun l2 hl2 => ?_⟩⟩
      have s13 := same_new hl2 (.lst [.str (mkS y1), .str (mkS y2), .str (mkS y3)])
      have e13 := s13 _ _ (k12 _ _ w6 w7 (k11 _ _ w6 w7 (k10 _ _ w6 w7 (k9 _ _ w6 w7 (sl _ _ e8)))))
      have K13 : Keeps d g H3 (upd H12 l2 (.lst [.str (mkS y1), .str (mkS y2), .str (mkS y3)])) := (((K9.trans k10).trans k11).trans k12).trans (Keeps.of s13)
      refine ⟨p, l2, _, _, rfl, rfl, e13, upd_same, ?_, fun p' hp' => ?_⟩
      · rw [List.length_map, List.length_map, hv1, sizeLine_eq]
        show us.length + 1 + 3 ≤ _
        omega
      have np' := (hD12.same s13).dn hp'
      have s14 := same_new hp' (.lst ((vs.map mkS).map V.str ++ [.str (mkS y1), .str (mkS y2), .str (mkS y3)]))
      refine ⟨_, _, p', vs ++ [y1, y2, y3], rfl, ?_, fun u hu => ?_, ?_, ((hD12.same s13).same s14).le (by omega), K13.trans (Keeps.of s14), K13.free np'.1 np'.2 hp', np'.1, np'.2⟩
      · rw [List.length_append, hv1]
        show us.length + 1 + 3 ≤ _
        omega
      · rcases List.mem_append.mp hu with h | h
        · exact hv2 u h
        · simp only [List.mem_cons, List.not_mem_nil, or_false] at h
          rcases h with rfl | rfl | rfl <;> omega
      · rw [upd_same, List.map_append, List.map_append]
        rfl
    -- all of them asked
    rintro σ H5 ⟨v9, v10, p, us, rfl, w1, w2, w3, hD5, w4, w5, w6, w7⟩
    have hJ5 := keep_dt w4 hJ
    refine ⟨_, rfl, p, rfl, ⟨_, SqL.of w3⟩, fun D hDD => ?_⟩
    refine lc_it (walk_list (xs := (us.map mkS).map .str)) (fun i H' => H' D = some (.lst []) ∧ Same H5 H') ⟨upd_same, same_new hDD _⟩ (fun i H' _ ⟨_, s⟩ => SqL.of (s _ _ w3)) ?_ ?_
    · rintro x v H6 H7 hx ⟨m1, m2⟩ ⟨rfl, hv⟩
      obtain ⟨y, hy, rfl⟩ := str_at hv
      refine ⟨rfl, _, rfl, _, rfl, .ref j, k, S, Fi, L, Pc, y, _, rfl, dt_same hJ5 m2, k1, by omega, (by have := w2 y (List.mem_of_getElem? hy); omega), hPl, fun H' s' => ⟨_, rfl, if_fl rfl ⟨s' _ _ m1, m2.trans s'⟩⟩⟩
    rintro H6 ⟨m1, m2⟩
    refine ⟨(by show 0 ≤ sizeLine; decide), fun pe hpe => ?_⟩
    have s7 := m2.trans (same_new hpe (.lst []))
    refine ⟨_, _, dp_ints (ns := []) (SqL.of ((same_new hpe (.lst [])) _ _ m1)), dp_ints (ns := []) (SqL.of upd_same), shaped_ints [], shaped_ints [], _, rfl, ?_⟩
    rw [show PyData.eqv (.list (([] : List Int).map .int)) (.list (([] : List Int).map .int)) = true by simp [PyData.eqv, PyData.eqvAll]]
    refine if_fl rfl ?_
    refine ⟨_, rfl, _, _, rfl, dt_any (dt_same hJ5 s7), shj, ?_⟩
    rw [hkept]
    refine ⟨_, rfl, rfl, _, rfl, if_fl (by simp) ?_⟩
    exact ⟨_, _, _, _, _, _, _, _, _, rfl, (hD5.same s7).le (by omega)⟩
  rintro σ H2 ⟨v2, v3, v4, v5, v6, v7, v8, v9, v10, rfl, hD2⟩
  refine ⟨(by show 2 ≤ sizeLine; decide), fun e1 he1 => ⟨(by show 1 ≤ sizeLine; decide), fun e2 he2 => ⟨(by show 1 ≤ sizeLine; decide), fun e3 he3 => ⟨(by show 2 ≤ sizeLine; decide), fun e4 he4 => ⟨(by show 5 ≤ sizeLine; decide), fun ej hej => ?_⟩⟩⟩⟩⟩
  obtain ⟨HJ, eHJ, sJ, hJ⟩ := judge_lit (k := (2 : Int)) he1 he2 he3 he4 hej 2 [[], [97]] [[97]] [[98]] [[97, 97], [97, 98]] rfl (by decide +kernel) (by decide +kernel) (by decide +kernel) (by decide +kernel)
  rw [← eHJ]
  have hDJ := hD2.same sJ
  refine ⟨(by show 9 ≤ sizeLine; decide), fun la hla => ?_⟩
  have sa := same_new hla (.lst [.str "", .str "a", .str "b", .str "aab", .str "ab", .str "aa", .str "aba", .str "abb", .str "ba"])
  have ea : upd HJ la (.lst [.str "", .str "a", .str "b", .str "aab", .str "ab", .str "aa", .str "aba", .str "abb", .str "ba"]) la = some (.lst ((zs9.map mkS).map V.str)) := by
    rw [upd_same]
    exact congrArg (fun x => some (HO.lst x)) (by decide +kernel)
  have hJa := dt_same hJ sa
  have hDa := hDJ.same sa
  generalize upd HJ la (.lst [.str "", .str "a", .str "b", .str "aab", .str "ab", .str "aa", .str "aba", .str "abb", .str "ba"]) = Ha at ea hJa hDa ⊢
  refine ⟨la, rfl, ⟨_, SqL.of ea⟩, fun D hD => ?_⟩
  refine lc_it (walk_list (xs := (zs9.map mkS).map V.str)) (fun i H' => H' D = some (.lst (((zs9.take i).map (acc 2 [[], [97]] [[97]] [[98]] [[97, 97], [97, 98]])).map V.bl)) ∧ Same Ha H') ⟨upd_same, same_new hD _⟩ (fun i H' _ ⟨_, s⟩ => SqL.of (s _ _ ea)) ?_ ?_
  · rintro i x H3 H4 hi ⟨m1, s1⟩ ⟨rfl, hx⟩
    obtain ⟨z, hz, rfl⟩ := str_at hx
    refine ⟨rfl, _, rfl, _, rfl, .ref ej, 2, _, _, _, _, z, _, rfl, dt_same hJa s1, by decide, by decide, zs9_len z (List.mem_of_getElem? hz), by decide, fun H' s' => ⟨_, s' _ _ m1, ?_, ?_, fun b o e => ?_⟩⟩
    · rw [List.length_map, List.length_map, List.length_take]
      exact Nat.lt_of_le_of_lt (Nat.min_le_right _ _) (by decide)
    · rw [upd_same, List.take_add_one, hz, List.map_append, List.map_append]
      rfl
    · rw [upd_ne (ne_of_none e hD)]
      exact s' _ _ (s1 b o e)
  rintro H3 ⟨m1, s1⟩
  rw [List.length_map, List.length_map, List.take_length, zs9_acc] at m1
  have hD3 := hDa.same s1
  refine ⟨_, rfl, (by show 9 ≤ sizeLine; decide), fun lb hlb => ?_⟩
  have sb := same_new hlb (.lst (bs9.map V.bl))
  refine ⟨_, _, dp_bls (SqL.of (sb _ _ m1)), dp_bls (bs := bs9) (SqL.of upd_same), shaped_bls _, shaped_bls _, _, rfl, ?_⟩
  rw [show PyData.eqv (dpsB bs9) (dpsB bs9) = true from eqv_bls bs9]
  refine if_fl rfl ?_
  have hD4 : DeckAt (10000 * 5) (upd H3 lb (.lst (bs9.map V.bl))) d g := hD3.same sb
  show tSeq _ _ _ _ (upd H3 lb (.lst (bs9.map V.bl)))
  generalize upd H3 lb (.lst (bs9.map V.bl)) = H4 at hD4 ⊢
  refine ⟨(by show 1 ≤ sizeLine; decide), fun e1 he1 => ⟨_, 29, rfl, rfl, mulOk_a 29 (by decide), (by show 1 ≤ sizeLine; decide), fun e2 he2 => ⟨_, 29, rfl, rfl, mulOk_a 29 (by decide), (by show 1 ≤ sizeLine; decide), fun e3 he3 => ⟨_, 30, rfl, rfl, mulOk_a 30 (by decide), (by show 1 ≤ sizeLine; decide), fun e4 he4 => ⟨(by show 5 ≤ sizeLine; decide), fun ek hek => ?_⟩⟩⟩⟩⟩
  obtain ⟨HK, eHK, sK, hK⟩ := judge_lit (k := (30 : Int)) he1 he2 he3 he4 hek 30 [[98]] [List.replicate 29 97] [List.replicate 29 97] [List.replicate 30 97] rfl (by decide +kernel) (by decide +kernel) (by decide +kernel) (by decide +kernel)
  rw [← eHK]
  have hDK := hD4.same sK
  refine ⟨_, 50, rfl, rfl, mulOk_a 50 (by decide), _, 29, rfl, rfl, mulOk_a 29 (by decide), _, 49, rfl, rfl, mulOk_a 49 (by decide), _, _, rfl, rfl, (by decide +kernel), _, 49, rfl, rfl, mulOk_a 49 (by decide), _, _, rfl, rfl, (by decide +kernel), _, 30, rfl, rfl, mulOk_a 30 (by decide), (by show 6 ≤ sizeLine; decide), fun lc hlc => ?_⟩
  have sc := same_new hlc (.lst [.str (Txt.mul "a" 50), .str (Txt.mul "a" 29), .str "b", .str (Txt.mul "a" 49 ++ "b"), .str ("b" ++ Txt.mul "a" 49), .str (Txt.mul "a" 30)])
  have ec : upd HK lc (.lst [.str (Txt.mul "a" 50), .str (Txt.mul "a" 29), .str "b", .str (Txt.mul "a" 49 ++ "b"), .str ("b" ++ Txt.mul "a" 49), .str (Txt.mul "a" 30)]) lc = some (.lst ((zs6.map mkS).map V.str)) := by
    rw [upd_same]
    exact congrArg (fun x => some (HO.lst x)) (by decide +kernel)
  have hKc := dt_same hK sc
  have hDc := hDK.same sc
  generalize upd HK lc (.lst [.str (Txt.mul "a" 50), .str (Txt.mul "a" 29), .str "b", .str (Txt.mul "a" 49 ++ "b"), .str ("b" ++ Txt.mul "a" 49), .str (Txt.mul "a" 30)]) = Hc at ec hKc hDc ⊢
  refine ⟨lc, rfl, ⟨_, SqL.of ec⟩, fun D2 hD2 => ?_⟩
  refine lc_it (walk_list (xs := (zs6.map mkS).map V.str)) (fun i H' => H' D2 = some (.lst (((zs6.take i).map (acc 30 [[98]] [List.replicate 29 97] [List.replicate 29 97] [List.replicate 30 97])).map V.bl)) ∧ Same Hc H') ⟨upd_same, same_new hD2 _⟩ (fun i H' _ ⟨_, s⟩ => SqL.of (s _ _ ec)) ?_ ?_
  · rintro i x H5 H6 hi ⟨m1, s1⟩ ⟨rfl, hx⟩
    obtain ⟨z, hz, rfl⟩ := str_at hx
    refine ⟨rfl, _, rfl, _, rfl, .ref ek, 30, _, _, _, _, z, _, rfl, dt_same hKc s1, by decide, by decide, zs6_len z (List.mem_of_getElem? hz), by decide, fun H' s' => ⟨_, s' _ _ m1, ?_, ?_, fun b o e => ?_⟩⟩
    · rw [List.length_map, List.length_map, List.length_take]
      exact Nat.lt_of_le_of_lt (Nat.min_le_right _ _) (by decide)
    · rw [upd_same, List.take_add_one, hz, List.map_append, List.map_append]
      rfl
    · rw [upd_ne (ne_of_none e hD2)]
      exact s' _ _ (s1 b o e)
  rintro H5 ⟨m1, s1⟩
  rw [List.length_map, List.length_map, List.take_length, zs6_acc] at m1
  have hD5 := hDc.same s1
  refine ⟨_, rfl, (by show 6 ≤ sizeLine; decide), fun ld hld => ?_⟩
  have sd := same_new hld (.lst (bs6.map V.bl))
  refine ⟨_, _, dp_bls (SqL.of (sd _ _ m1)), dp_bls (bs := bs6) (SqL.of upd_same), shaped_bls _, shaped_bls _, _, rfl, ?_⟩
  rw [show PyData.eqv (dpsB bs6) (dpsB bs6) = true from eqv_bls bs6]
  refine if_fl rfl ?_
  have hD6 : DeckAt (10000 * 5) (upd H5 ld (.lst (bs6.map V.bl))) d g := hD5.same sd
  exact ⟨_, rfl, d, g, 10000 * 5, rfl, hD6, (by unfold most; decide), q⟩
end
end Vf

set_option Elab.async false
set_option linter.all false
set_option maxRecDepth 100000
set_option maxHeartbeats 4000000
namespace Vf
open PySem PySem.Spec PyProof.Rows L2 L2.Vx
section
variable {P : Program} {w : World} {K : PySem.W.Frag} {mg : Str → Option Value} {base : Heap}
theorem all_mk {l : PySem.W.OpenLaw} {h : Heap} {fa : Addr} (X : K.In h) (G : h.Ns mainGlobals mg) (hfa : mg "law" = some (.ref fa))
    {fA : Addr} {ocA : Value} {odA anA : Option Addr} {slA : Array (Option Value)} {kVA dcA pmA cdA ctA : Value} {fC : Addr} {ocC : Value} {odC anC : Option Addr} {slC : Array (Option Value)} {kVC dcC pmC cdC ctC : Value} {fM : Addr} {ocM : Value} {odM anM : Option Addr} {slM : Array (Option Value)} {kVM dcM pmM cdM ctM : Value} {fE : Addr} {ocE : Value} {odE anE : Option Addr} {slE : Array (Option Value)} {kVE dcE pmE cdE ctE : Value} {fV : Addr} {ocV : Value} {odV anV : Option Addr} {slV : Array (Option Value)} {kVV dcV pmV cdV ctV : Value} {fY : Addr} {ocY : Value} {odY anY : Option Addr} {slY : Array (Option Value)} {kVY dcY pmY cdY ctY : Value} {fK : Addr} {ocK : Value} {odK anK : Option Addr} {slK : Array (Option Value)} {kVK dcK pmK cdK ctK : Value} {fW : Addr} {ocW : Value} {odW anW : Option Addr} {slW : Array (Option Value)} {kVW dcW pmW cdW ctW : Value} {fP : Addr} {ocP : Value} {odP anP : Option Addr} {slP : Array (Option Value)} {kVP dcP pmP cdP ctP : Value} {fO : Addr} {ocO : Value} {odO anO : Option Addr} {slO : Array (Option Value)} {kVO dcO pmO cdO ctO : Value} {fZ : Addr} {ocZ : Value} {odZ anZ : Option Addr} {slZ : Array (Option Value)} {kVZ dcZ pmZ cdZ ctZ : Value} {fS : Addr} {ocS : Value} {odS anS : Option Addr} {slS : Array (Option Value)} {kVS dcS pmS cdS ctS : Value} {fB : Addr} {ocB : Value} {odB anB : Option Addr} {slB : Array (Option Value)} {kVB dcB pmB cdB ctB : Value} {fU : Addr} {ocU : Value} {odU anU : Option Addr} {slU : Array (Option Value)} {kVU dcU pmU cdU ctU : Value} {fN : Addr} {ocN : Value} {odN anN : Option Addr} {slN : Array (Option Value)} {kVN dcN pmN cdN ctN : Value} {fT : Addr} {ocT : Value} {odT anT : Option Addr} {slT : Array (Option Value)} {kVT dcT pmT cdT ctT : Value} {fR : Addr} {ocR : Value} {odR anR : Option Addr} {slR : Array (Option Value)} {kVR dcR pmR cdR ctR : Value} {fL : Addr} {ocL : Value} {odL anL : Option Addr} {slL : Array (Option Value)} {kVL dcL pmL cdL ctL : Value} {fX : Addr} {ocX : Value} {odX anX : Option Addr} {slX : Array (Option Value)} {kVX dcX pmX cdX ctX : Value}
    (aA : PySem.W.nsIn K mainGlobals "in_pairs" = some (some (.ref fA)))
    (lA : K.lookup fA = some ⟨ocA, odA, .func (PySem.W.fnOf "in_pairs" "in_pairs" (defArgs sPairs) (defBody sPairs) (defScope sPairs) .none kVA dcA pmA anA cdA ctA), slA⟩)
    (cA : PySem.W.codeIn K cdA "in_pairs" = true)
    (kA : PySem.W.keepIn K (.ref fA) = true)
    (aC : PySem.W.nsIn K mainGlobals "pieces_of" = some (some (.ref fC)))
    (lC : K.lookup fC = some ⟨ocC, odC, .func (PySem.W.fnOf "pieces_of" "pieces_of" (defArgs sPieces) (defBody sPieces) (defScope sPieces) .none kVC dcC pmC anC cdC ctC), slC⟩)
    (cC : PySem.W.codeIn K cdC "pieces_of" = true)
    (kC : PySem.W.keepIn K (.ref fC) = true)
    (aM : PySem.W.nsIn K mainGlobals "summed" = some (some (.ref fM)))
    (lM : K.lookup fM = some ⟨ocM, odM, .func (PySem.W.fnOf "summed" "summed" (defArgs sSummed) (defBody sSummed) (defScope sSummed) .none kVM dcM pmM anM cdM ctM), slM⟩)
    (cM : PySem.W.codeIn K cdM "summed" = true)
    (kM : PySem.W.keepIn K (.ref fM) = true)
    (aE : PySem.W.nsIn K mainGlobals "ended_with" = some (some (.ref fE)))
    (lE : K.lookup fE = some ⟨ocE, odE, .func (PySem.W.fnOf "ended_with" "ended_with" (defArgs sEnded) (defBody sEnded) (defScope sEnded) .none kVE dcE pmE anE cdE ctE), slE⟩)
    (cE : PySem.W.codeIn K cdE "ended_with" = true)
    (kE : PySem.W.keepIn K (.ref fE) = true)
    (aV : PySem.W.nsIn K mainGlobals "view_of" = some (some (.ref fV)))
    (lV : K.lookup fV = some ⟨ocV, odV, .func (PySem.W.fnOf "view_of" "view_of" (defArgs sView) (defBody sView) (defScope sView) .none kVV dcV pmV anV cdV ctV), slV⟩)
    (cV : PySem.W.codeIn K cdV "view_of" = true)
    (kV : PySem.W.keepIn K (.ref fV) = true)
    (aY : PySem.W.nsIn K mainGlobals "accepts" = some (some (.ref fY)))
    (lY : K.lookup fY = some ⟨ocY, odY, .func (PySem.W.fnOf "accepts" "accepts" (defArgs sAcc) (defBody sAcc) (defScope sAcc) .none kVY dcY pmY anY cdY ctY), slY⟩)
    (cY : PySem.W.codeIn K cdY "accepts" = true)
    (kY : PySem.W.keepIn K (.ref fY) = true)
    (aK : PySem.W.nsIn K mainGlobals "_law_deck" = some (some (.ref fK)))
    (lK : K.lookup fK = some ⟨ocK, odK, .func (PySem.W.fnOf "_law_deck" "_law_deck" (defArgs sDeck) (defBody sDeck) (defScope sDeck) .none kVK dcK pmK anK cdK ctK), slK⟩)
    (cK : PySem.W.codeIn K cdK "_law_deck" = true)
    (kK : PySem.W.keepIn K (.ref fK) = true)
    (aW : PySem.W.nsIn K mainGlobals "_law_draw" = some (some (.ref fW)))
    (lW : K.lookup fW = some ⟨ocW, odW, .func (PySem.W.fnOf "_law_draw" "_law_draw" (defArgs sDraw) (defBody sDraw) (defScope sDraw) .none kVW dcW pmW anW cdW ctW), slW⟩)
    (cW : PySem.W.codeIn K cdW "_law_draw" = true)
    (kW : PySem.W.keepIn K (.ref fW) = true)
    (aP : PySem.W.nsIn K mainGlobals "_law_pick" = some (some (.ref fP)))
    (lP : K.lookup fP = some ⟨ocP, odP, .func (PySem.W.fnOf "_law_pick" "_law_pick" (defArgs sPick) (defBody sPick) (defScope sPick) .none kVP dcP pmP anP cdP ctP), slP⟩)
    (cP : PySem.W.codeIn K cdP "_law_pick" = true)
    (kP : PySem.W.keepIn K (.ref fP) = true)
    (aO : PySem.W.nsIn K mainGlobals "_law_words" = some (some (.ref fO)))
    (lO : K.lookup fO = some ⟨ocO, odO, .func (PySem.W.fnOf "_law_words" "_law_words" (defArgs sWords) (defBody sWords) (defScope sWords) .none kVO dcO pmO anO cdO ctO), slO⟩)
    (cO : PySem.W.codeIn K cdO "_law_words" = true)
    (kO : PySem.W.keepIn K (.ref fO) = true)
    (aZ : PySem.W.nsIn K mainGlobals "_law_sizes" = some (some (.ref fZ)))
    (lZ : K.lookup fZ = some ⟨ocZ, odZ, .func (PySem.W.fnOf "_law_sizes" "_law_sizes" (defArgs sSizes) (defBody sSizes) (defScope sSizes) .none kVZ dcZ pmZ anZ cdZ ctZ), slZ⟩)
    (cZ : PySem.W.codeIn K cdZ "_law_sizes" = true)
    (kZ : PySem.W.keepIn K (.ref fZ) = true)
    (aS : PySem.W.nsIn K mainGlobals "_law_some" = some (some (.ref fS)))
    (lS : K.lookup fS = some ⟨ocS, odS, .func (PySem.W.fnOf "_law_some" "_law_some" (defArgs sSome) (defBody sSome) (defScope sSome) .none kVS dcS pmS anS cdS ctS), slS⟩)
    (cS : PySem.W.codeIn K cdS "_law_some" = true)
    (kS : PySem.W.keepIn K (.ref fS) = true)
    (aB : PySem.W.nsIn K mainGlobals "_law_bars" = some (some (.ref fB)))
    (lB : K.lookup fB = some ⟨ocB, odB, .func (PySem.W.fnOf "_law_bars" "_law_bars" (defArgs sBars) (defBody sBars) (defScope sBars) .none kVB dcB pmB anB cdB ctB), slB⟩)
    (cB : PySem.W.codeIn K cdB "_law_bars" = true)
    (kB : PySem.W.keepIn K (.ref fB) = true)
    (aU : PySem.W.nsIn K mainGlobals "_law_accepted" = some (some (.ref fU)))
    (lU : K.lookup fU = some ⟨ocU, odU, .func (PySem.W.fnOf "_law_accepted" "_law_accepted" (defArgs sDue) (defBody sDue) (defScope sDue) .none kVU dcU pmU anU cdU ctU), slU⟩)
    (cU : PySem.W.codeIn K cdU "_law_accepted" = true)
    (kU : PySem.W.keepIn K (.ref fU) = true)
    (aN : PySem.W.nsIn K mainGlobals "_law_walked" = some (some (.ref fN)))
    (lN : K.lookup fN = some ⟨ocN, odN, .func (PySem.W.fnOf "_law_walked" "_law_walked" (defArgs sWalked) (defBody sWalked) (defScope sWalked) .none kVN dcN pmN anN cdN ctN), slN⟩)
    (cN : PySem.W.codeIn K cdN "_law_walked" = true)
    (kN : PySem.W.keepIn K (.ref fN) = true)
    (aT : PySem.W.nsIn K mainGlobals "_law_bent" = some (some (.ref fT)))
    (lT : K.lookup fT = some ⟨ocT, odT, .func (PySem.W.fnOf "_law_bent" "_law_bent" (defArgs sBent) (defBody sBent) (defScope sBent) .none kVT dcT pmT anT cdT ctT), slT⟩)
    (cT : PySem.W.codeIn K cdT "_law_bent" = true)
    (kT : PySem.W.keepIn K (.ref fT) = true)
    (aR : PySem.W.nsIn K mainGlobals "_law_right" = some (some (.ref fR)))
    (lR : K.lookup fR = some ⟨ocR, odR, .func (PySem.W.fnOf "_law_right" "_law_right" (defArgs sOne) (defBody sOne) (defScope sOne) .none kVR dcR pmR anR cdR ctR), slR⟩)
    (cR : PySem.W.codeIn K cdR "_law_right" = true)
    (kR : PySem.W.keepIn K (.ref fR) = true)
    (aL : PySem.W.nsIn K mainGlobals "_law_long_right" = some (some (.ref fL)))
    (lL : K.lookup fL = some ⟨ocL, odL, .func (PySem.W.fnOf "_law_long_right" "_law_long_right" (defArgs sLong) (defBody sLong) (defScope sLong) .none kVL dcL pmL anL cdL ctL), slL⟩)
    (cL : PySem.W.codeIn K cdL "_law_long_right" = true)
    (kL : PySem.W.keepIn K (.ref fL) = true)
    (aX : PySem.W.nsIn K mainGlobals "law" = some (some (.ref fX)))
    (lX : K.lookup fX = some ⟨ocX, odX, .func (PySem.W.fnOf "law" "law" (defArgs sLaw) (defBody sLaw) (defScope sLaw) .none kVX dcX pmX anX cdX ctX), slX⟩)
    (cX : PySem.W.codeIn K cdX "law" = true)
    (kX : PySem.W.keepIn K (.ref fX) = true)
    (z_list : PySem.W.nsIn K mainGlobals "list" = some none)
    (z_int : PySem.W.nsIn K mainGlobals "int" = some none)
    (z_len : PySem.W.nsIn K mainGlobals "len" = some none)
    (z_range : PySem.W.nsIn K mainGlobals "range" = some none)
    (z_tuple : PySem.W.nsIn K mainGlobals "tuple" = some none)
    (z_sorted : PySem.W.nsIn K mainGlobals "sorted" = some none)
    (z_set : PySem.W.nsIn K mainGlobals "set" = some none)
    (z_repr : PySem.W.nsIn K mainGlobals "repr" = some none)
    (z_all : PySem.W.nsIn K mainGlobals "all" = some none) :
    ∃ fd : FuncData, (∀ (s : Shared) (v : Value), BindsTo s fd ⟨[v], []⟩ [("_law_script", v)]) ∧ ∀ base : Heap, K.In base → base.Ns mainGlobals mg → FnG l.prog w K mg base 7 fa fd ["_law_script"] (spLaw K) := by
  have e := hfa.symm.trans (PySem.W.mg_of X G aX)
  cases e
  have FA := fun_mk (st := sPairs) lA cA kA
  have bA := FA.binds (ps := ["numbers"]) fun _ _ _ _ _ _ us hl => match us, hl with | [_], _ => rfl
  have gA := PySem.W.mg_of X G aA
  have FC := fun_mk (st := sPieces) lC cC kC
  have bC := FC.binds (ps := ["width", "text"]) fun _ _ _ _ _ _ us hl => match us, hl with | [_, _], _ => rfl
  have gC := PySem.W.mg_of X G aC
  have FM := fun_mk (st := sSummed) lM cM kM
  have bM := FM.binds (ps := ["tables", "top"]) fun _ _ _ _ _ _ us hl => match us, hl with | [_, _], _ => rfl
  have gM := PySem.W.mg_of X G aM
  have FE := fun_mk (st := sEnded) lE cE kE
  have bE := FE.binds (ps := ["width", "text"]) fun _ _ _ _ _ _ us hl => match us, hl with | [_, _], _ => rfl
  have gE := PySem.W.mg_of X G aE
  have FV := fun_mk (st := sView) lV cV kV
  have bV := FV.binds (ps := ["width", "top", "text"]) fun _ _ _ _ _ _ us hl => match us, hl with | [_, _, _], _ => rfl
  have gV := PySem.W.mg_of X G aV
  have FY := fun_mk (st := sAcc) lY cY kY
  have bY := FY.binds (ps := ["judge", "text"]) fun _ _ _ _ _ _ us hl => match us, hl with | [_, _], _ => rfl
  have gY := PySem.W.mg_of X G aY
  have FK := fun_mk (st := sDeck) lK cK kK
  have bK := FK.binds (ps := ["_law_script"]) fun _ _ _ _ _ _ us hl => match us, hl with | [_], _ => rfl
  have gK := PySem.W.mg_of X G aK
  have FW := fun_mk (st := sDraw) lW cW kW
  have bW := FW.binds (ps := ["_law_deck_here", "_law_many"]) fun _ _ _ _ _ _ us hl => match us, hl with | [_, _], _ => rfl
  have gW := PySem.W.mg_of X G aW
  have FP := fun_mk (st := sPick) lP cP kP
  have bP := FP.binds (ps := ["_law_deck_here", "_law_some_here"]) fun _ _ _ _ _ _ us hl => match us, hl with | [_, _], _ => rfl
  have gP := PySem.W.mg_of X G aP
  have FO := fun_mk (st := sWords) lO cO kO
  have bO := FO.binds (ps := ["_law_abc", "_law_size"]) fun _ _ _ _ _ _ us hl => match us, hl with | [_, _], _ => rfl
  have gO := PySem.W.mg_of X G aO
  have FZ := fun_mk (st := sSizes) lZ cZ kZ
  have bZ := FZ.binds (ps := ["_law_deck_here"]) fun _ _ _ _ _ _ us hl => match us, hl with | [_], _ => rfl
  have gZ := PySem.W.mg_of X G aZ
  have FS := fun_mk (st := sSome) lS cS kS
  have bS := FS.binds (ps := ["_law_deck_here", "_law_items", "_law_share"]) fun _ _ _ _ _ _ us hl => match us, hl with | [_, _, _], _ => rfl
  have gS := PySem.W.mg_of X G aS
  have FB := fun_mk (st := sBars) lB cB kB
  have bB := FB.binds (ps := ["_law_deck_here", "_law_abc", "_law_wide"]) fun _ _ _ _ _ _ us hl => match us, hl with | [_, _, _], _ => rfl
  have gB := PySem.W.mg_of X G aB
  have FU := fun_mk (st := sDue) lU cU kU
  have bU := FU.binds (ps := ["_law_it", "_law_word"]) fun _ _ _ _ _ _ us hl => match us, hl with | [_, _], _ => rfl
  have gU := PySem.W.mg_of X G aU
  have FN := fun_mk (st := sWalked) lN cN kN
  have bN := FN.binds (ps := ["_law_deck_here", "_law_abc", "_law_it", "_law_size"]) fun _ _ _ _ _ _ us hl => match us, hl with | [_, _, _, _], _ => rfl
  have gN := PySem.W.mg_of X G aN
  have FT := fun_mk (st := sBent) lT cT kT
  have bT := FT.binds (ps := ["_law_deck_here", "_law_abc", "_law_word"]) fun _ _ _ _ _ _ us hl => match us, hl with | [_, _, _], _ => rfl
  have gT := PySem.W.mg_of X G aT
  have FR := fun_mk (st := sOne) lR cR kR
  have bR := FR.binds (ps := ["_law_it", "_law_word"]) fun _ _ _ _ _ _ us hl => match us, hl with | [_, _], _ => rfl
  have gR := PySem.W.mg_of X G aR
  have FL := fun_mk (st := sLong) lL cL kL
  have bL := FL.binds (ps := ["_law_deck_here"]) fun _ _ _ _ _ _ us hl => match us, hl with | [_], _ => rfl
  have gL := PySem.W.mg_of X G aL
  have FX := fun_mk (st := sLaw) lX cX kX
  have gX := PySem.W.mg_of X G aX
  have n_list := PySem.W.mg_none_of X G z_list
  have n_int := PySem.W.mg_none_of X G z_int
  have n_len := PySem.W.mg_none_of X G z_len
  have n_range := PySem.W.mg_none_of X G z_range
  have n_tuple := PySem.W.mg_none_of X G z_tuple
  have n_sorted := PySem.W.mg_none_of X G z_sorted
  have n_set := PySem.W.mg_none_of X G z_set
  have n_repr := PySem.W.mg_none_of X G z_repr
  have n_all := PySem.W.mg_none_of X G z_all
  refine ⟨PySem.W.fnOf "law" "law" (defArgs sLaw) (defBody sLaw) (defScope sLaw) .none kVX dcX pmX anX cdX ctX, fun s v => .of_eq rfl, fun base _ _ => ?_⟩
  have TD : TxtD mg fW := ⟨n_list, n_int, n_len, gW⟩
  have TP : TxtP mg := ⟨n_tuple, n_sorted, n_set, n_range, n_len⟩
  have TW : TxtW mg fW fP := { toTxtD := TD, pick := gP, range := n_range, tuple := n_tuple }
  have TG : TxtG mg fW fP fR := { toTxtW := TW, sorted := n_sorted, set := n_set, right := gR }
  have TL : TxtL mg fW fP fR fK fZ fB fO fN fT fY fL := { toTxtG := TG, deck := gK, sizes := gZ, bars := gB, words := gO, walked := gN, bent := gT, acc := gY, long := gL, rep := n_repr }
  have GW := ok_draw (P := l.prog) (w := w) (base := base) FW TD
  have GP := ok_pick (P := l.prog) (w := w) (base := base) FP FW bW TD
  have GQ := ok_pickS (P := l.prog) (w := w) (base := base) FP FW bW TD
  have GI := ok_pickT (P := l.prog) (w := w) (base := base) FP FW bW TD
  have GA := ok_pairs (P := l.prog) (w := w) (base := base) FA TP
  have GC := ok_pieces (P := l.prog) (w := w) (base := base) FC TP GA bA FA.kp gA
  have GM := ok_summed (P := l.prog) (w := w) (base := base) FM GA bA FA.kp gA
  have GE := ok_ended (P := l.prog) (w := w) (base := base) FE TP
  have GV := ok_view (P := l.prog) (w := w) (base := base) FV TP GC bC FC.kp gC GE bE FE.kp gE GM bM FM.kp gM
  have GY := ok_acc (P := l.prog) (w := w) (base := base) FY n_len n_all GV bV FV.kp gV
  have GO := ok_words (P := l.prog) (w := w) (base := base) FO TW
  have GZ := ok_sizes (P := l.prog) (w := w) (base := base) FZ TW GW bW FW.kp GP bP FP.kp
  have GS := ok_some (P := l.prog) (w := w) (base := base) FS TW GW bW FW.kp
  have GB := ok_bars (P := l.prog) (w := w) (base := base) FB TW GP bP FP.kp GO bO FO.kp gO GS bS FS.kp gS
  have GU := ok_due (P := l.prog) (w := w) (base := base) FU TW
  have GN := ok_walked (P := l.prog) (w := w) (base := base) FN TW GP GI bP FP.kp
  have GT := ok_bent (P := l.prog) (w := w) (base := base) FT TW GW bW FW.kp GP bP FP.kp
  have GR := ok_one (P := l.prog) (w := w) (base := base) FR n_repr GU bU FU.kp gU GY bY FY.kp (kb_acc FY) gY
  have GL := ok_long (P := l.prog) (w := w) (base := base) FL TG GW bW FW.kp GP GQ bP FP.kp GR bR FR.kp
  exact ok_law FX TL (ok_deck FK TD) bK FK.kp GW bW FW.kp GP GQ bP FP.kp GZ bZ FZ.kp GB bB FB.kp GO bO FO.kp GN bN FN.kp GT bT FT.kp GY bY FY.kp GR bR FR.kp GL bL FL.kp
end
theorem walk {l : PySem.W.OpenLaw} {q : Program} {loose : List Str} {XP : (Str → Option Value) → Heap → Prop} {YP : World → Heap → Prop} {d : DefRec} {K : Params → PySem.W.Frag} (hn : l.most = some 63) (hdf : d.params.defaults = [])
    (hY : ∀ (w : World) (h : Heap), YP w h → (K w.params).In h)
    (F : ∀ (w : World) (mg : Str → Option Value) (fa : Addr) (h : Heap), (K w.params).In h → h.Ns mainGlobals mg → mg d.name = some (.ref fa) →
      ∃ fd : FuncData, (∀ (s : Shared) (u : Value), BindsTo s fd ⟨[u], []⟩ [("_law_script", u)]) ∧ ∀ base : Heap, (K w.params).In base → base.Ns mainGlobals mg → FnG l.prog w (K w.params) mg base 7 fa fd ["_law_script"] (spLaw (K w.params))) :
    PySem.W.WalkO q loose XP YP l.row.toRowW d [] (fun f vs => PySem.call f vs) :=
  walk_ofG (n := 63) (k := 7) (x := "_law_script") (sp := fun w => spLaw (K w.params)) hn (by decide) hdf ⟨rfl, by decide, by decide⟩ hY F (fun _ _ a ns hl _ hS => ⟨a, ns, rfl, hS, hl, fun _ => rfl⟩)
end Vf
open PySem PySem.W PyProof.Rows
set_option maxRecDepth 100000 in
set_option maxHeartbeats 0 in
theorem PySem.Challenge.cw_piecesseen_k21_texts_that_judges_accept_holds : PySem.Challenge.rw_piecesseen_k21_texts_that_judges_accept.Holds := by
  w_on; o_law; k_head; (case hw => w_witness2)
  k_fill
  refine Vf.walk (l := PySem.Challenge.rw_piecesseen_k21_texts_that_judges_accept) rfl rfl (fun w h Y => PySem.W.kIn_of Y) ?F
  case F =>
    intro w mg fa h KX G hmg
    refine' Vf.all_mk KX G hmg ?aA ?lA ?cA ?kA ?aC ?lC ?cC ?kC ?aM ?lM ?cM ?kM ?aE ?lE ?cE ?kE ?aV ?lV ?cV ?kV ?aY ?lY ?cY ?kY ?aK ?lK ?cK ?kK ?aW ?lW ?cW ?kW ?aP ?lP ?cP ?kP ?aO ?lO ?cO ?kO ?aZ ?lZ ?cZ ?kZ ?aS ?lS ?cS ?kS ?aB ?lB ?cB ?kB ?aU ?lU ?cU ?kU ?aN ?lN ?cN ?kN ?aT ?lT ?cT ?kT ?aR ?lR ?cR ?kR ?aL ?lL ?cL ?kL ?aX ?lX ?cX ?kX ?z_list ?z_int ?z_len ?z_range ?z_tuple ?z_sorted ?z_set ?z_repr ?z_all
    (case aA => k_is)
    (case lA => k_is)
    (case cA => k_is)
    (case kA => k_is)
    (case aC => k_is)
    (case lC => k_is)
    (case cC => k_is)
    (case kC => k_is)
    (case aM => k_is)
    (case lM => k_is)
    (case cM => k_is)
    (case kM => k_is)
    (case aE => k_is)
    (case lE => k_is)
    (case cE => k_is)
    (case kE => k_is)
    (case aV => k_is)
    (case lV => k_is)
    (case cV => k_is)
    (case kV => k_is)
    (case aY => k_is)
    (case lY => k_is)
    (case cY => k_is)
    (case kY => k_is)
    (case aK => k_is)
    (case lK => k_is)
    (case cK => k_is)
    (case kK => k_is)
    (case aW => k_is)
    (case lW => k_is)
    (case cW => k_is)
    (case kW => k_is)
    (case aP => k_is)
    (case lP => k_is)
    (case cP => k_is)
    (case kP => k_is)
    (case aO => k_is)
    (case lO => k_is)
    (case cO => k_is)
    (case kO => k_is)
    (case aZ => k_is)
    (case lZ => k_is)
    (case cZ => k_is)
    (case kZ => k_is)
    (case aS => k_is)
    (case lS => k_is)
    (case cS => k_is)
    (case kS => k_is)
    (case aB => k_is)
    (case lB => k_is)
    (case cB => k_is)
    (case kB => k_is)
    (case aU => k_is)
    (case lU => k_is)
    (case cU => k_is)
    (case kU => k_is)
    (case aN => k_is)
    (case lN => k_is)
    (case cN => k_is)
    (case kN => k_is)
    (case aT => k_is)
    (case lT => k_is)
    (case cT => k_is)
    (case kT => k_is)
    (case aR => k_is)
    (case lR => k_is)
    (case cR => k_is)
    (case kR => k_is)
    (case aL => k_is)
    (case lL => k_is)
    (case cL => k_is)
    (case kL => k_is)
    (case aX => k_is)
    (case lX => k_is)
    (case cX => k_is)
    (case kX => k_is)
    (case z_list => k_is)
    (case z_int => k_is)
    (case z_len => k_is)
    (case z_range => k_is)
    (case z_tuple => k_is)
    (case z_sorted => k_is)
    (case z_set => k_is)
    (case z_repr => k_is)
    (case z_all => k_is)
